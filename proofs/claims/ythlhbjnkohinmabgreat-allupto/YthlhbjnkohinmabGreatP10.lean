import Derived.Test.YthlhbjnkohinmabGreatP09
import Derived.Deep.RegionLaw
import Derived.Deep.MidRow
import Derived.Handy
import Derived.Test.YthlhbjnkohinmabGreatP04
import Derived.Deep.WholeRow
namespace Go.Proofs.YthlhbjnkohinmabGreat
set_option maxRecDepth 100000
set_option maxHeartbeats 8000000
open Go.RowKit
def mP (w:World)(b o c:Nat)(f:Bool)(v n t:Int):World:=((((w.setCell ⟨b,o+2,none⟩ (.int .i64 n)).setCell ⟨b,o+3+c*4,none⟩ (.bool true)).setCell ⟨b,o+3+c*4+1,none⟩ (.bool f)).setCell ⟨b,o+3+c*4+2,none⟩ (.int .i64 v)).setCell ⟨b,o+3+c*4+3,none⟩ (.int .i64 t)
theorem yn (b o c:Nat)(f:Bool)(v n t:Int)(w:World)(hc:c<60)(u0 u1 u2 u3:Value)
  (m0:w.cell? ⟨b,o+1,none⟩=some (.int .i64 t)) (m1:w.cell? ⟨b,o+2,none⟩=some (.int .i64 n)) (hn:0≤n) (ht:0≤t) (hnt:t+(n+1)≤9223372036854775807)
  (c0:w.cell? ⟨b,o+3+c*4,none⟩=some u0) (c1:w.cell? ⟨b,o+3+c*4+1,none⟩=some u1) (c2:w.cell? ⟨b,o+3+c*4+2,none⟩=some u2) (c3:w.cell? ⟨b,o+3+c*4+3,none⟩=some u3)
  (zz:∀ i,w.frozen? ⟨b,i,none⟩=false) (hb:b<w.heap.size) :
  Calls Tryz.prog 75 #[.pointer (some ⟨b,o,none⟩),.int .i64 c,.agg #[.bool f,.int .i64 v]] w fun e w'=>e=.returned (.tuple #[])∧
   ∃ m,w'=((mP w b o c f v (n+1) (t+(n+1))).alloc (.cells #[.bool f,.int .i64 v] 77)).drewN m:=by
 have hbz:b≠w.heap.size:=by omega
 have hi0:(0:Int)≤(c:Int):=by omega
 have hi1:(c:Int)<60:=by omega
 have z0:=zz (o+2)
 have z1:=zz (o+3+c*4)
 have z2:=zz (o+3+c*4+1)
 have z3:=zz (o+3+c*4+2)
 have z4:=zz (o+3+c*4+3)
 unfold mP
 go_enter Tryz.func75,Tryz.ntmps75
 go_wp2_with fail
 go_region
 all_goals go_wp2_with fail
 all_goals go_returns
 all_goals exact⟨rfl,1,rfl⟩
structure kA (w w':World)(b o n:Nat):Prop where
 fr:Fr [b] w w'
 cell:∀ i,(i<o∨o+n≤i)→w'.cell? ⟨b,i,none⟩=w.cell? ⟨b,i,none⟩
 blk:∀ {cs:Array Value} {t:TypeId},w.heap[b]?=some (.cells cs t (0,0))→∃ cs',w'.heap[b]?=some (.cells cs' t (0,0))
theorem kA.refl (w:World)(b o n:Nat):kA w w b o n:=⟨Fr.refl _ _,fun _ _=>rfl,fun h=>⟨_,h⟩⟩
theorem kA.trans {w w1 w2:World}{b o n:Nat}(h:kA w w1 b o n)(k:kA w1 w2 b o n):kA w w2 b o n:=
 ⟨h.fr.trans k.fr,fun i hi=>(k.cell i hi).trans (h.cell i hi),fun hb=>by obtain⟨_,h1⟩:=h.blk hb;exact k.blk h1⟩
theorem kA.drewN {w w':World}{b o n:Nat}(h:kA w w' b o n)(m:Nat):kA w (w'.drewN m) b o n:=⟨h.fr.drewN m,h.cell,h.blk⟩
theorem ah {w:World}{b:Nat}{cs:Array Value}{t:TypeId}(h:w.heap[b]?=some (.cells cs t (0,0)))(i:Nat)(u:Value):(w.setCell ⟨b,i,none⟩ u).heap[b]?=some (.cells (cs.setIfInBounds i u) t (0,0)):=Go.heap_setCell_same w b i _ _ _ h
theorem kA.set {w w':World}{b o n:Nat}(h:kA w w' b o n){i:Nat}(h1:o≤i)(h2:i<o+n)(u:Value):kA w (w'.setCell ⟨b,i,none⟩ u) b o n:=
 ⟨h.fr.set (.inl (by simp)) u,fun j hj=>by
  rw[World.cell?_setCell_other _ _ _ _ (by intro e;injection e with e1 e2;omega)]
  exact h.cell j hj,fun hb=>by
  obtain⟨cs',h3⟩:=h.blk hb
  exact⟨_,ah h3 i u⟩⟩
theorem kA.alloc {w w':World}{b o n:Nat}(h:kA w w' b o n)(hb:b<w.heap.size)(ob:Obj):kA w (w'.alloc ob) b o n:=by
 have hb':b<w'.heap.size:=Nat.lt_of_lt_of_le hb h.fr.size
 refine⟨h.fr.alloc ob,fun j hj=>?_,fun hk=>?_⟩
 ·rw[World.cell?_alloc_lt _ _ _ (by simpa using hb')]
  exact h.cell j hj
 ·obtain⟨cs',h3⟩:=h.blk hk
  exact⟨cs',(Below.heap_alloc w' ob b hb').trans h3⟩
theorem cJ.other {w w':World}{b o a n:Nat}{S:aK}(h:cJ w b o S)(hc:kA w w' b a n)(hd:o+244≤a∨a+n≤o):cJ w' b o S:=
 ⟨(hc.cell _ (by omega)).trans h.num,(hc.cell _ (by omega)).trans h.snap,(hc.cell _ (by omega)).trans h.cnt,fun c hl=>(hc.cell _ (by omega)).trans (h.made c hl),fun c hl=>(hc.cell _ (by omega)).trans (h.filled c hl),fun c hl=>(hc.cell _ (by omega)).trans (h.val c hl),fun c hl=>(hc.cell _ (by omega)).trans (h.tm c hl),(hc.cell _ (by omega)).trans h.mks,h.ok⟩
theorem cJ.fr {w w':World}{b o:Nat}{S:aK}{F:List Nat}(h:cJ w b o S)(hf:Fr F w w')(hb:b<w.heap.size)(hF:b∉F):cJ w' b o S:=by
 have e:∀ i,w'.cell? ⟨b,i,none⟩=w.cell? ⟨b,i,none⟩:=fun i=>by simp only[World.cell?,hf.block b hb hF]
 exact⟨(e _).trans h.num,(e _).trans h.snap,(e _).trans h.cnt,fun c hl=>(e _).trans (h.made c hl),fun c hl=>(e _).trans (h.filled c hl),fun c hl=>(e _).trans (h.val c hl),fun c hl=>(e _).trans (h.tm c hl),(e _).trans h.mks,h.ok⟩
structure yz (b o:Nat)(S':aK)(w w':World):Prop where
 ses:cJ w' b o S'
 chg:kA w w' b o 244
theorem Cb (S:aK){c:Nat}(hc:c<60)(v:Option Int):kF (S.put c v)=true:=by
 unfold kF
 rw[List.any_eq_true]
 exact⟨c,by simpa using hc,by simp[aK.put,cI]⟩
theorem aK.ok.put {S:aK}(h:S.ok){c:Nat}(hc:c<60)(v:Option Int):(S.put c v).ok:=by
 have h0:=h.1
 refine⟨?_,?_⟩
 ·show 0≤S.made+1
  omega
 ·rw[Cb S hc v]
  show decide (0<S.made+1)=true
  exact decide_eq_true (by omega)
theorem aT {w:World}{b i j:Nat}(h:i≠j)(u:Value):(w.setCell ⟨b,j,none⟩ u).cell? ⟨b,i,none⟩=w.cell? ⟨b,i,none⟩:=World.cell?_setCell_other _ _ _ _ (by intro e;injection e with e1 e2;omega)
theorem gn {w:World}{b i:Nat}{v:Value}(h:w.cell? ⟨b,i,none⟩=some v)(u:Value):(w.setCell ⟨b,i,none⟩ u).cell? ⟨b,i,none⟩=some u:=World.cell?_setCell_same _ _ _ h
theorem F1 {b o c:Nat}{S:aK}{w:World}{cs:Array Value}{t:TypeId}(hb:w.heap[b]?=some (.cells cs t (0,0)))(h:cJ w b o S)(hc:c<60)(v:Option Int)(ob:Obj)(m:Nat):
  yz b o (S.put c v) w (((mP w b o c v.isSome (v.getD 0) (S.made+1) (S.snap+(S.made+1))).alloc ob).drewN m):=by
 have hbl:=lt_of_block hb
 have hsz:(mP w b o c v.isSome (v.getD 0) (S.made+1) (S.snap+(S.made+1))).heap.size=w.heap.size:=by simp[mP,World.setCell]
 have hch:kA w (((mP w b o c v.isSome (v.getD 0) (S.made+1) (S.snap+(S.made+1))).alloc ob).drewN m) b o 244:=by
  unfold mP
  exact (((((((kA.refl w b o 244).set (by omega) (by omega) _).set (by omega) (by omega) _).set (by omega) (by omega) _).set (by omega) (by omega) _).set (by omega) (by omega) _).alloc hbl ob).drewN m
 have e0:∀ (R:World),R.heap.size=w.heap.size→∀ i,((R.alloc ob).drewN m).cell? ⟨b,i,none⟩=R.cell? ⟨b,i,none⟩:=fun R hR i=>by
  show World.cell? (World.alloc _ _) _=_
  exact World.cell?_alloc_lt _ _ _ (by rw[hR];exact hbl)
 have e:=e0 _ hsz
 have far:∀ i,i≠o+2→i≠o+3+c*4→i≠o+3+c*4+1→i≠o+3+c*4+2→i≠o+3+c*4+3→(mP w b o c v.isSome (v.getD 0) (S.made+1) (S.snap+(S.made+1))).cell? ⟨b,i,none⟩=w.cell? ⟨b,i,none⟩:=by
  intro i h1 h2 h3 h4 h5
  unfold mP
  rw[aT h5,aT h4,aT h3,aT h2,aT h1]
 refine⟨⟨?_,?_,?_,fun j hj=>?_,fun j hj=>?_,fun j hj=>?_,fun j hj=>?_,?_,h.ok.put hc v⟩,hch⟩
 ·rw[e,far _ (by omega) (by omega) (by omega) (by omega) (by omega)];exact h.num
 ·rw[e,far _ (by omega) (by omega) (by omega) (by omega) (by omega)];exact h.snap
 ·rw[e]
  unfold mP
  rw[aT (by omega),aT (by omega),aT (by omega),aT (by omega),gn h.cnt]
  rfl
 ·show World.cell? _ _=some (Value.bool (iU (cI S.wr c (some v) j)))
  rw[e]
  by_cases ej:j=c
  ·subst ej
   rw[aW]
   unfold mP
   rw[aT (by omega),aT (by omega),aT (by omega),gn (v:=.bool (iU (S.wr j))) (by rw[aT (by omega)];exact h.made j hj)]
   rfl
  ·rw[bD _ _ _ ej,far _ (by omega) (by omega) (by omega) (by omega) (by omega)];exact h.made j hj
 ·show World.cell? _ _=some (Value.bool (gW (cI S.wr c (some v) j)))
  rw[e]
  by_cases ej:j=c
  ·subst ej
   rw[aW]
   unfold mP
   rw[aT (by omega),aT (by omega),gn (v:=.bool (gW (S.wr j))) (by rw[aT (by omega),aT (by omega)];exact h.filled j hj)]
   cases v <;> rfl
  ·rw[bD _ _ _ ej,far _ (by omega) (by omega) (by omega) (by omega) (by omega)];exact h.filled j hj
 ·show World.cell? _ _=some (Value.int .i64 (re (cI S.wr c (some v) j)))
  rw[e]
  by_cases ej:j=c
  ·subst ej
   rw[aW]
   unfold mP
   rw[aT (by omega),gn (v:=.int .i64 (re (S.wr j))) (by rw[aT (by omega),aT (by omega),aT (by omega)];exact h.val j hj)]
   cases v <;> rfl
  ·rw[bD _ _ _ ej,far _ (by omega) (by omega) (by omega) (by omega) (by omega)];exact h.val j hj
 ·show World.cell? _ _=some (Value.int .i64 (cI S.tm c (S.snap+(S.made+1)) j))
  rw[e]
  by_cases ej:j=c
  ·subst ej
   rw[aW]
   unfold mP
   rw[gn (v:=.int .i64 (S.tm j)) (by rw[aT (by omega),aT (by omega),aT (by omega),aT (by omega)];exact h.tm j hj)]
  ·rw[bD _ _ _ ej,far _ (by omega) (by omega) (by omega) (by omega) (by omega)];exact h.tm j hj
 ·rw[e,far _ (by omega) (by omega) (by omega) (by omega) (by omega)];exact h.mks
theorem ai {w:World}{b:Nat}{cs:Array Value}{t:TypeId}(hb:w.heap[b]?=some (.cells cs t (0,0)))(i:Nat):w.frozen? ⟨b,i,none⟩=false:=by simp[World.frozen?,hb]
def aK.more (S:aK):Prop:=0≤S.snap∧S.snap+(S.made+1)≤9223372036854775807
theorem nY (b o c:Nat)(v:Option Int)(S:aK)(w:World)(hc:c<60){cs:Array Value}{t:TypeId}(hb:w.heap[b]?=some (.cells cs t (0,0)))(h:cJ w b o S)(hm:S.more):
  Calls Tryz.prog 75 #[.pointer (some ⟨b,o,none⟩),.int .i64 c,.agg #[.bool v.isSome,.int .i64 (v.getD 0)]] w fun e w'=>e=.returned (.tuple #[])∧yz b o (S.put c v) w w':=by
 refine (yn b o c v.isSome (v.getD 0) S.made S.snap w hc _ _ _ _ h.snap h.cnt h.ok.1 hm.1 hm.2 (h.made c hc) (h.filled c hc) (h.val c hc) (h.tm c hc) (ai hb) (lt_of_block hb)).mono ?_
 rintro e w' ⟨rfl,n,rfl⟩
 exact⟨rfl,F1 hb h hc v _ _⟩
theorem C3 (b o c:Nat)(v:Int)(S:aK)(w:World)(hc:c<60){cs:Array Value}{t:TypeId}(hb:w.heap[b]?=some (.cells cs t (0,0)))(h:cJ w b o S)(hm:S.more):
  Calls Tryz.prog 38 #[.pointer (some ⟨b,o,none⟩),.int .i64 c,.int .i64 v] w fun e w'=>e=.returned (.tuple #[])∧yz b o (S.put c (some v)) w w':=by
 have HR:=af (nY b o c (some v) S w hc hb h hm)
 clear hb h hm
 go_enter Tryz.func38,Tryz.ntmps38
 go_wp2_with fail
 go_at_call 75
 refine HR.out.mono ?_
 rintro e w' ⟨rfl,h⟩
 have H:=af h
 clear h
 go_wp2
 go_returns
 exact⟨rfl,H.out⟩
theorem xX (b o c:Nat)(S:aK)(w:World)(hc:c<60){cs:Array Value}{t:TypeId}(hb:w.heap[b]?=some (.cells cs t (0,0)))(h:cJ w b o S)(hm:S.more):
  Calls Tryz.prog 43 #[.pointer (some ⟨b,o,none⟩),.int .i64 c] w fun e w'=>e=.returned (.tuple #[])∧yz b o (S.put c none) w w':=by
 have HR:=af (nY b o c none S w hc hb h hm)
 clear hb h hm
 go_enter Tryz.func43,Tryz.ntmps43
 go_wp2_with fail
 go_at_call 75
 refine HR.out.mono ?_
 rintro e w' ⟨rfl,h⟩
 have H:=af h
 clear h
 go_wp2
 go_returns
 exact⟨rfl,H.out⟩
theorem te {s:ByteArray}{k:Nat}(hs:2≤s.size)(hk:k<2):bt (s.extract 0 2) k=bt s k:=by
 have h1:(s.extract 0 2).size=2:=by simp;omega
 unfold bt
 rw[dif_pos (by omega),dif_pos (by omega)]
 congr 1
 congr 1
 simp[ByteArray.getElem_extract]
theorem ya (s:ByteArray)(w:World)(_hs63:s.size<9223372036854775808):
  Calls Tryz.prog 37 #[.string s] w fun e w'=>e=.returned (js s)∧w'=w:=by
 obtain⟨r,hr⟩:∃ r,r=js s:=⟨_,rfl⟩
 rw[←hr]
 by_cases hs3:s.size=3
 ·have s2:2<s.size:=by omega
  have bb2:=bY s 2
  have hz:(s.extract 0 2).size=2:=by simp;omega
  have hcn:dO (s.extract 0 2)=dO s:=by unfold dO;rw[te (by omega) (by omega),te (by omega) (by omega)]
  have hb:eU s=(eE (s.extract 0 2)&&bM (bt s 2)):=by
   simp only[eU,eE,hs3,hz,te (show 2≤s.size by omega) (show 0<2 by omega),te (show 2≤s.size by omega) (show 1<2 by omega)]
   simp
  have HC:=af (fun W=>qF (s.extract 0 2) W (by omega))
  cases hc:eE (s.extract 0 2) with
  |false=>
   have e1:gB (s.extract 0 2)=.tuple #[.int .i64 0,.bool false]:=by unfold gB;rw[hc];rfl
   rw[e1] at HC
   have HU:Hid (r=.tuple #[.int .i64 0,.int .i64 0,.bool false]):=af (by rw[hr];unfold js;rw[hb,hc];rfl)
   cases h2:bM (bt s 2) with
   |false=>
    have HD:=af (fun W=>jK (bt s 2) W bb2.1 bb2.2 h2)
    rw[bh s2] at HD
    clear hb hc h2 bb2 hr e1 hcn hz
    go_enter Tryz.func37,Tryz.ntmps37
    go_wp2_with fail
    go_at_call 42
    refine (HC.out _).mono ?_
    rintro e w' ⟨rfl,rfl⟩
    go_wp2_with fail
    go_at_call 74
    refine (HD.out _).mono ?_
    rintro e w' ⟨rfl,rfl⟩
    go_wp2
    go_ret3
    exact⟨by rw[HU.out];rfl,rfl⟩
   |true=>
    have HD:=af (fun W=>iQ (bt s 2) W bb2.1 bb2.2 h2)
    rw[bh s2] at HD
    clear hb hc h2 bb2 hr e1 hcn hz
    go_enter Tryz.func37,Tryz.ntmps37
    go_wp2_with fail
    go_at_call 42
    refine (HC.out _).mono ?_
    rintro e w' ⟨rfl,rfl⟩
    go_wp2_with fail
    go_at_call 74
    refine (HD.out _).mono ?_
    rintro e w' ⟨rfl,rfl⟩
    go_wp2
    go_ret3
    exact⟨by rw[HU.out];rfl,rfl⟩
  |true=>
   have e1:gB (s.extract 0 2)=.tuple #[.int .i64 (dO s),.bool true]:=by unfold gB;rw[hc,hcn];rfl
   rw[e1] at HC
   cases h2:bM (bt s 2) with
   |false=>
    have HU:Hid (r=.tuple #[.int .i64 0,.int .i64 0,.bool false]):=af (by rw[hr];unfold js;rw[hb,hc,h2];rfl)
    have HD:=af (fun W=>jK (bt s 2) W bb2.1 bb2.2 h2)
    rw[bh s2] at HD
    clear hb hc h2 bb2 hr e1 hcn hz
    go_enter Tryz.func37,Tryz.ntmps37
    go_wp2_with fail
    go_at_call 42
    refine (HC.out _).mono ?_
    rintro e w' ⟨rfl,rfl⟩
    go_wp2_with fail
    go_at_call 74
    refine (HD.out _).mono ?_
    rintro e w' ⟨rfl,rfl⟩
    go_wp2
    go_ret3
    exact⟨by rw[HU.out];rfl,rfl⟩
   |true=>
    have HU:Hid (r=.tuple #[.int .i64 (dO s),.int .i64 (bt s 2 - 48),.bool true]):=af (by rw[hr];unfold js;rw[hb,hc,h2];rfl)
    have HD:=af (fun W=>iQ (bt s 2) W bb2.1 bb2.2 h2)
    rw[bh s2] at HD HU
    clear hb hc h2 bb2 hr e1 hcn hz
    go_enter Tryz.func37,Tryz.ntmps37
    go_wp2_with fail
    go_at_call 42
    refine (HC.out _).mono ?_
    rintro e w' ⟨rfl,rfl⟩
    go_wp2_with fail
    go_at_call 74
    refine (HD.out _).mono ?_
    rintro e w' ⟨rfl,rfl⟩
    go_wp2
    go_ret3
    exact⟨by rw[HU.out];rfl,rfl⟩
 ·have HU:Hid (r=.tuple #[.int .i64 0,.int .i64 0,.bool false]):=af (by rw[hr];simp[js,eU,hs3])
  clear hr
  go_enter Tryz.func37,Tryz.ntmps37
  go_wp2
  go_ret3
  exact⟨by rw[HU.out];rfl,rfl⟩
abbrev aw:=Nat×Int×Int
def kQ (q:aw):Value:=.agg #[.int .i64 ((q.1:Int) / 10),.int .i64 ((q.1:Int) % 10),.int .i64 q.2.1,.int .i64 q.2.2]
theorem ut (k:Nat)(v t:Int)(w:World)(hk:k<60):
  Calls Tryz.prog 103 #[.int .i64 k,.int .i64 v,.int .i64 t] w fun e w'=>e=.returned (kQ (k,v,t))∧w.grownBy w' none:=by
 unfold kQ
 go_enter Tryz.func103,Tryz.ntmps103
 go_wp2
 refine bodyPost_ret (results_cell_row Tryz.results103 _ _ _ _ _ _ _ rfl (heap_alloc_new _ _) Tryz.underlying114 rfl (by kernel_rfl)) rfl ⟨rfl,ab (ag _ _) _⟩
theorem ny (k:Nat)(v t:Int)(w:World)(hk:k<60)(hv:0≤v)(hv2:v≤9):
  Calls Tryz.prog 45 #[kQ (k,v,t)] w fun e w'=>e=.returned (.string (cz k v))∧w.grownBy w' none:=by
 have h1:(97:Int)+(k:Int) / 10≤255:=by omega
 have h2:(48:Int)+(k:Int) % 10≤255:=by omega
 have h3:(48:Int)+v≤255:=by omega
 have hcv:=run_convert_bytes_arg (P:=Tryz.prog) ((w.alloc (.cells #[.int .i64 ((k:Int) / 10),.int .i64 ((k:Int) % 10),.int .i64 v,.int .i64 t] 114)).alloc (.cells #[.int .u8 (97+(k:Int) / 10),.int .u8 (48+(k:Int) % 10),.int .u8 (48+v)] 5)) 160 5 Tryz.underlying160 Tryz.underlying5 (w.heap.size+1) 0 3 3 [97+(k:Int) / 10,48+(k:Int) % 10,48+v] rfl (by
  intro i hi
  rw[World.cell?_alloc_at _ _ _ _ (by simp)]
  match i,hi with
  |0,_=>rfl
  |1,_=>rfl
  |2,_=>rfl) 9 Tryz.underlying9
 unfold kQ
 go_enter Tryz.func45,Tryz.ntmps45
 go_wp2
 go_ret
 exact⟨rfl,ab (ab (ag _ _) _) _⟩
def cu (l:List (Int×Option Int)):List Value:=l.flatMap fun p=>[.int .i64 p.1,.bool p.2.isSome,.int .i64 (p.2.getD 0)]
theorem mM (l:List (Int×Option Int))(p:Int×Option Int):cu (l++[p])=cu l++[.int .i64 p.1,.bool p.2.isSome,.int .i64 (p.2.getD 0)]:=by simp[cu]
theorem iW:∀ (l:List (Int×Option Int))(k:Nat)(hk:k<l.length) ,(cu l)[k*3]?=some (.int .i64 l[k].1)∧(cu l)[k*3+1]?=some (.bool l[k].2.isSome)∧(cu l)[k*3+2]?=some (.int .i64 (l[k].2.getD 0))
 |p::l,0,_=>⟨rfl,rfl,rfl⟩
 |p::l,k+1,hk=>by
  obtain⟨h1,h2,h3⟩:=iW l k (by simpa using hk)
  have e:cu (p::l)=.int .i64 p.1::.bool p.2.isSome::.int .i64 (p.2.getD 0)::cu l:=rfl
  rw[e,show (k+1)*3=k*3+1+1+1 by omega]
  exact⟨by simpa using h1,by simpa using h2,by simpa using h3⟩
theorem xO {l:List (Int×Option Int)}{t:Int}(h:∀ j (hj:j<l.length),¬l[j].1≤t):aN l t=(0,none):=by
 unfold aN
 have:l.reverse.find? (fun p=>decide (p.1≤t))=none:=by
  rw[List.find?_eq_none]
  intro p hp
  obtain⟨j,hj,rfl⟩:=List.mem_iff_getElem.mp (List.mem_reverse.mp hp)
  simpa using h j hj
 rw[this]
theorem yl {l:List (Int×Option Int)}{t:Int}{k:Nat}(hk:k<l.length)(h1:l[k].1≤t)(h:∀ j (hj:j<l.length),k<j→¬l[j].1≤t):aN l t=l[k]:=by
 unfold aN
 have:l.reverse.find? (fun p=>decide (p.1≤t))=some l[k]:=by
  rw[List.find?_eq_some_iff_getElem]
  refine⟨by simpa using h1,l.length - 1 - k,by simp;omega,?_,?_⟩
  ·simp only[List.getElem_reverse]
   congr 1
   omega
  ·intro j hj
   simp only[List.getElem_reverse,Bool.not_eq_true',decide_eq_false_iff_not]
   exact h _ (by omega) (by omega)
 rw[this]
def rI (p:Int×Option Int):Value:=.agg #[.int .i64 p.1,.bool p.2.isSome,.int .i64 (p.2.getD 0)]
theorem yx (b o:Nat)(l:List (Int×Option Int))(t:Int)(a:Option Addr)(m cp:Nat)(w:World)(hl:l.length≤9223372036854775807)
  (hc:w.cell? ⟨b,o+1,none⟩=some (.slice a m cp)) (h:w.ownsRow 0 137 3 (.slice a m cp) l.length (cu l)) :
  Calls Tryz.prog 88 #[.pointer (some ⟨b,o,none⟩),.int .i64 t] w fun e w'=>e=.returned (rI (aN l t))∧w.grownBy w' none:=by
 have em:=ar h
 subst em
 obtain⟨r,hr⟩:∃ r,r=aN l t:=⟨_,rfl⟩
 rw[←hr]
 have HR:=af hr
 clear hr
 have hbl:=World.block_lt_of_cell? w _ hc
 have hbz:b≠w.heap.size:=by simp at hbl;omega
 go_enter Tryz.func88,Tryz.ntmps88
 go_wp2_with fail
 go_loop [5] (fun i=>∃ k:Nat,k≤l.length∧i=.int .i64 ((k:Int) - 1)∧∀ j (h:j<l.length),k≤j→¬l[j].1≤t) (fun i=>(intOf i+1).toNat)
 case atStart=>exact⟨l.length,Nat.le_refl _,rfl,fun j h1 h2=>by omega⟩
 case round=>
  obtain⟨k,hk,rfl,hno⟩:=hrel
  have HN:=af hno
  clear hno
  cases k with
  |zero=>
   have HU:Hid (r=(0,none)):=af (by rw[HR.out];exact xO (fun j hj=>HN.out j hj (Nat.zero_le _)))
   go_wp2
   refine bodyPost_ret (v:=rI (0,none)) (results_cell_row Tryz.results88 _ _ _ _ _ _ _ rfl (heap_alloc_new _ _) Tryz.underlying137 rfl (by kernel_rfl)) rfl ⟨by rw[HU.out],ab (ag _ _) _⟩
  |succ k=>
   have hlt:k<l.length:=by omega
   obtain⟨g,rfl,_,hgb,hgl,hcell⟩:=aC h (by omega)
   have d0:=hcell _ _ (iW l k hlt).1
   have d1:=hcell _ _ (iW l k hlt).2.1
   have d2:=hcell _ _ (iW l k hlt).2.2
   have hk0:((k+1:Nat):Int) - 1=(k:Int):=by omega
   rw[hk0]
   clear hcell
   have hgz:g≠w.heap.size:=by omega
   obtain⟨u,hu⟩:∃ u,u=l[k].1:=⟨_,rfl⟩
   obtain⟨q,hq⟩:∃ q,q=l[k].2:=⟨_,rfl⟩
   rw[←hu] at d0
   rw[←hq] at d1 d2
   have HX:=af hu
   have HQ:=af hq
   clear hu hk0 hq
   by_cases he:u≤t
   ·have HU:Hid (r=(u,q)):=af (by rw[HR.out,HQ.out,HX.out];exact yl hlt (by rw[←HX.out];exact he) (fun j hj hkj=>HN.out j hj (by omega)))
    go_wp2
    try simp only[Exit.inBlock,Exit.then]
    refine bodyPost_ret (v:=rI (u,q)) (results_cell_row Tryz.results88 _ _ _ _ _ _ _ rfl (heap_alloc_new _ _) Tryz.underlying137 rfl (by kernel_rfl)) rfl ⟨by rw[HU.out],ab (ag _ _) _⟩
   ·have HN':Hid (∀ j (h:j<l.length),k≤j→¬l[j].1≤t):=af (by
     intro j hj hkj
     by_cases e:j=k
     ·subst e;rw[←HX.out];exact he
     ·exact HN.out j hj (by omega))
    go_wp2
    go_round
    case rel=>exact⟨k,by omega,rfl,HN'.out⟩
    case measure=>simp[intOf]
structure jl (w:World)(b o:Nat)(X:ap)(kv:Nat→Value):Prop where
 latest:w.cell? ⟨b,o,none⟩=some (.int .i64 X.latest)
 last:∀ c,c<60→w.cell? ⟨b,o+1+c*2,none⟩=some (.int .i64 (X.last c))
 kept:∀ c,c<60→w.cell? ⟨b,o+1+c*2+1,none⟩=some (kv c)
def oC (w:World)(X:ap)(kv:Nat→Value):Prop:=∀ c,c<60→w.ownsRow 0 137 3 (kv c) (X.hist c).length (cu (X.hist c))
structure jg (sc:Array Value)(k:Nat)(f:Nat→Int×Option Int):Prop where
 size:sc.size=180
 stamp:∀ c,c<k→sc[c*3]?=some (.int .i64 (f c).1)
 fill:∀ c,c<k→sc[c*3+1]?=some (.bool (f c).2.isSome)
 val:∀ c,c<k→sc[c*3+2]?=some (.int .i64 ((f c).2.getD 0))
theorem jg.one {sc:Array Value}{f:Nat→Int×Option Int}(h:jg sc 60 f):sc.all (·.oneCell')=true:=by
 rw[Array.all_eq_true]
 intro j hj
 have hs:=h.size
 have h0:=h.stamp (j / 3) (by omega)
 have h1:=h.fill (j / 3) (by omega)
 have h2:=h.val (j / 3) (by omega)
 have e:j / 3*3=j∨j / 3*3+1=j∨j / 3*3+2=j:=by omega
 rcases e with e|e|e
 ·rw[e,Array.getElem?_eq_getElem hj] at h0
  simp only[Option.some.injEq] at h0
  rw[h0];rfl
 ·rw[e,Array.getElem?_eq_getElem hj] at h1
  simp only[Option.some.injEq] at h1
  rw[h1];rfl
 ·rw[e,Array.getElem?_eq_getElem hj] at h2
  simp only[Option.some.injEq] at h2
  rw[h2];rfl
theorem jg.step {sc:Array Value}{k:Nat}{f:Nat→Int×Option Int}(h:jg sc k f)(hk:k<60):jg (((sc.setIfInBounds (k*3) (.int .i64 (f k).1)).setIfInBounds (k*3+1) (.bool (f k).2.isSome)).setIfInBounds (k*3+2) (.int .i64 ((f k).2.getD 0))) (k+1) f:=by
 have hs:=h.size
 refine⟨by simp[hs],fun c hc=>?_,fun c hc=>?_,fun c hc=>?_⟩
 ·rw[Array.getElem?_setIfInBounds_ne (by omega),Array.getElem?_setIfInBounds_ne (by omega)]
  by_cases e:c=k
  ·subst e
   rw[Array.getElem?_setIfInBounds_self_of_lt (by omega)]
  ·rw[Array.getElem?_setIfInBounds_ne (by omega)]
   exact h.stamp c (by omega)
 ·rw[Array.getElem?_setIfInBounds_ne (by omega)]
  by_cases e:c=k
  ·subst e
   rw[Array.getElem?_setIfInBounds_self_of_lt (by simp;omega)]
  ·rw[Array.getElem?_setIfInBounds_ne (by omega),Array.getElem?_setIfInBounds_ne (by omega)]
   exact h.fill c (by omega)
 ·by_cases e:c=k
  ·subst e
   rw[Array.getElem?_setIfInBounds_self_of_lt (by simp;omega)]
  ·rw[Array.getElem?_setIfInBounds_ne (by omega),Array.getElem?_setIfInBounds_ne (by omega),Array.getElem?_setIfInBounds_ne (by omega)]
   exact h.val c (by omega)
theorem vw {P:Program}{op:Oper}{a:Act}{w:World}{K:Act→World→Prop}{Q:Exit→Act→World→Prop}(ty:TypeId)(x:Operand)(ho:op.op=.load ty x)
  (b:Nat) (hx:a.eval x=.pointer (some ⟨b,0,none⟩)) (cs:Array Value) (t:TypeId) (fr:Nat×Nat) (d:TypeDesc) (hb:w.heap[b]?=some (.cells cs t fr))
  (hu:P.underlying ty=some d) (hd:(match d with|.struct _|.array _ _=>true|_=>false)=true) (hi:(P.info? ty).map (·.size)=some cs.size)
  (h:K (a.put op.dst (.agg cs)) w):op.wp P a w K Q:=by
 unfold Oper.wp execOp
 simp only[ho,hx,Instr.loadAt,Instr.sureAddr,Sem.run_bind,Sem.run_pure,Result.andThen_ok,run_loadVar_row w b t ty cs fr d hb hu hd hi]
 exact h
theorem sZ {P:Program}{op:Oper}{a:Act}{w:World}{K:Act→World→Prop}{Q:Exit→Act→World→Prop}(ty:TypeId)(x y:Operand)(ho:op.op=.store ty x y)
  (b:Nat) (hx:a.eval x=.pointer (some ⟨b,0,none⟩)) (cs old:Array Value) (hy:a.eval y=.agg cs) (t:TypeId) (hb:w.heap[b]?=some (.cells old t (0,0)))
  (hi:(P.info? ty).map (·.size)=some cs.size) (hs:old.size=cs.size) (h1:cs.all (·.oneCell')=true)
  (h:K (a.put op.dst undef) (w.setRow b cs)):op.wp P a w K Q:=by
 unfold Oper.wp execOp
 simp only[ho,hx,hy,Instr.storeAt,Instr.sureAddr,Sem.run_bind,Sem.run_pure,Result.andThen_ok,run_storeVar_row w b t ty old cs hb hi hs h1]
 exact h
theorem oX {P:Program}{ops:Array Oper}{rest:List Oper}{op:Oper}{a:Act}{w:World}{Q:Exit→Act→World→Prop}(hgd:op.guard=none)(ty:TypeId)(x:Operand)(ho:op.op=.load ty x)
  (b:Nat) (hx:a.eval x=.pointer (some ⟨b,0,none⟩)) (cs:Array Value) (t:TypeId) (fr:Nat×Nat) (d:TypeDesc) (hb:w.heap[b]?=some (.cells cs t fr))
  (hu:P.underlying ty=some d) (hd:(match d with|.struct _|.array _ _=>true|_=>false)=true) (hi:(P.info? ty).map (·.size)=some cs.size)
  (h:wpList P ops Q rest (a.put op.dst (.agg cs)) w):wpList P ops Q (op::rest) a w:=
 wpList_plain hgd fun _ hK=>vw ty x ho b hx cs t fr d hb hu hd hi (hK _ _ h)
theorem oq {P:Program}{ops:Array Oper}{rest:List Oper}{op:Oper}{a:Act}{w:World}{Q:Exit→Act→World→Prop}(hgd:op.guard=none)(ty:TypeId)(x y:Operand)(ho:op.op=.store ty x y)
  (b:Nat) (hx:a.eval x=.pointer (some ⟨b,0,none⟩)) (cs old:Array Value) (hy:a.eval y=.agg cs) (t:TypeId) (hb:w.heap[b]?=some (.cells old t (0,0)))
  (hi:(P.info? ty).map (·.size)=some cs.size) (hs:old.size=cs.size) (h1:cs.all (·.oneCell')=true)
  (h:wpList P ops Q rest (a.put op.dst undef) (w.setRow b cs)):wpList P ops Q (op::rest) a w:=
 wpList_plain hgd fun _ hK=>sZ ty x y ho b hx cs old hy t hb hi hs h1 (hK _ _ h)
theorem tW {w w':World}{r:Option Nat}(h:w.grownBy w' r){b:Nat}(hb:w.heap.size≤b)(cs:Array Value):w.grownBy (w'.setRow b cs) r:=
 ⟨h.os,h.tape,h.output,by simpa using h.size,fun k hk hr=>by rw[setRow_other _ _ _ _ (by omega)];exact h.block k hk hr⟩
def iY:Array Value:=((List.replicate 60 [Value.int .i64 0,Value.bool false,Value.int .i64 0]).flatten).toArray
theorem ij:iY.size=180:=by kernel_rfl
theorem Tryz.zinfo138:(Tryz.prog.info? 138).map (fun i=>(i.zero,i.size))=some (some (.agg iY),180):=by kernel_rfl
theorem am {w w':World}(h:w.grownBy w' none){a:Addr}{v:Value}(hc:w.cell? a=some v):w'.cell? a=some v:=h.cell hc (by simp)
theorem jz {w w':World}(h:w.grownBy w' none){e:TypeId}{s n:Nat}{v:Value}{xs:List Value}(ho:w.ownsRow 0 e s v n xs):w'.ownsRow 0 e s v n xs:=aq ho h (fun g hg=>by cases hg)
theorem yE (b o:Nat)(X:ap)(kv:Nat→Value)(t:Int)(w:World)(hS:jl w b o X kv)(hR:oC w X kv)(hl:∀ c,c<60→(X.hist c).length≤9223372036854775807):
  Calls Tryz.prog 60 #[.pointer (some ⟨b,o,none⟩),.int .i64 t] w fun e w'=>(∃ sc,e=.returned (.agg sc)∧jg sc 60 (fun c=>aN (X.hist c) t))∧w.grownBy w' none:=by
 obtain⟨hz,hzs⟩:=zero_of_info Tryz.zinfo138
 obtain⟨z,hzz⟩:∃ z,z=iY:=⟨_,rfl⟩
 have hzsz:Hid (z.size=180):=af (by rw[hzz];exact ij)
 rw[←hzz] at hz
 have HZS:=af hzs
 clear hzz hzs
 have hbl:b<w.heap.size:=World.block_lt_of_cell? w _ hS.latest
 have HAT:Hid (∀ c,c<60→∀ W,w.grownBy W none→Calls Tryz.prog 88 #[.pointer (some ⟨b,o+1+c*2,none⟩),.int .i64 t] W fun e w'=>e=.returned (rI (aN (X.hist c) t))∧W.grownBy w' none):=af (by
  intro c hc W hg
  have h1:=hR c hc
  have h2:=hS.kept c hc
  obtain⟨a,m,cp,e⟩:=an h1
  rw[e] at h1 h2
  exact yx b (o+1+c*2) (X.hist c) t a m cp W (hl c hc) (am hg h2) (jz hg h1))
 clear hS hR hl
 go_enter Tryz.func60,Tryz.ntmps60
 go_wp2_with fail
 go_loopw [6] (fun i wr=>∃ k:Nat,k≤60∧i=.int .i64 k∧w.grownBy wr none∧wr.heap[w.heap.size]?=some (.cells z 138 (0,0))∧∃ sc,wr.heap[w.heap.size+1]?=some (.cells sc 138 (0,0))∧jg sc k (fun c=>aN (X.hist c) t)) (fun i _=>60 - (intOf i).toNat)
 case atStart=>
  refine⟨0,by omega,rfl,ab (ab (ag _ _) _) _,?_,z,?_,hzsz.out,fun c h=>by omega,fun c h=>by omega,fun c h=>by omega⟩
  ·exact (Below.heap_alloc _ _ _ (by simp)).trans (heap_alloc_new w _)
  ·have:=heap_alloc_new (w.alloc (.cells z 138)) (.cells z 138)
   simpa using this
 case round=>
  obtain⟨k,hk,rfl,hg,hb0,sc,hb1,hsc⟩:=hrel
  have HG:=af hg
  have HB0:=af hb0
  have HSC:=af hsc
  have HB1:=af hb1
  clear hg hb0 hsc hb1
  by_cases hlt:k<60
  ·have HC:=af (HAT.out k hlt _ HG.out)
   obtain⟨v,hv⟩:∃ v,v=aN (X.hist k) t:=⟨_,rfl⟩
   rw[←hv] at HC
   have HV:=af hv
   clear hv
   unfold rI at HC
   go_wp2_with fail
   go_at_call 88
   refine HC.out.mono ?_
   rintro e w1 ⟨rfl,hg1⟩
   have hl1:=lt_of_block HB1.out
   have hb1:=(hg1.block _ hl1 (by simp)).trans HB1.out
   have HB2:=af hb1
   have x0:w1.cell? ⟨w.heap.size+1,k*3,none⟩=some (sc[k*3]'(by have:=HSC.out.size;omega)):=by simp[World.cell?,hb1]
   have x1:w1.cell? ⟨w.heap.size+1,k*3+1,none⟩=some (sc[k*3+1]'(by have:=HSC.out.size;omega)):=by simp[World.cell?,hb1]
   have x2:w1.cell? ⟨w.heap.size+1,k*3+2,none⟩=some (sc[k*3+2]'(by have:=HSC.out.size;omega)):=by simp[World.cell?,hb1]
   have z0:=ai hb1 (k*3)
   have z1:=ai hb1 (k*3+1)
   have z2:=ai hb1 (k*3+2)
   have HG1:=af (ae HG.out hg1)
   have HB3:=af ((hg1.block _ (lt_of_block HB0.out) (by simp)).trans HB0.out)
   clear hg1 hb1 HC HB0 HB1 HG
   generalize sc[k*3]'_=y0 at x0
   generalize sc[k*3+1]'_=y1 at x1
   generalize sc[k*3+2]'_=y2 at x2
   go_wp2_with fail
   go_roundw
   case rel=>
    refine⟨k+1,by omega,by go_num,aj (aj (aj HG1.out (.inr (by simp)) _) (.inr (by simp)) _) (.inr (by simp)) _,?_,_,ah (ah (ah HB2.out _ _) _ _) _ _,?_⟩
    ·rw[Below.heap_setCell _ _ _ _ (by simp),Below.heap_setCell _ _ _ _ (by simp),Below.heap_setCell _ _ _ _ (by simp)]
     exact HB3.out
    ·rw[HV.out]
     exact HSC.out.step hlt
   case measure=>simp[intOf];omega
  ·have hk60:k=60:=by omega
   subst hk60
   have HONE:=af HSC.out.one
   have HSZ:=af HSC.out.size
   go_wp2_with (first|(refine oX rfl 138 (.tmp 5) rfl (w.heap.size+1) rfl sc _ _ _ HB1.out Tryz.underlying138 rfl (HZS.out.trans (by rw[HSZ.out])) ?_)|(refine oq rfl 138 (.tmp 4) (.tmp 20) rfl w.heap.size rfl sc z rfl _ HB0.out (HZS.out.trans (by rw[HSZ.out])) (by rw[HSZ.out,hzsz.out]) HONE.out ?_))
   refine bodyPost_ret (v:=.agg sc) (results_cell_row Tryz.results60 _ _ _ _ _ _ _ rfl (setRow_heap _ _ _ _ _ _ HB0.out) Tryz.underlying138 rfl (HZS.out.trans (by rw[HSZ.out]))) rfl ⟨⟨sc,rfl,HSC.out⟩,tW HG.out (Nat.le_refl _) _⟩
end Go.Proofs.YthlhbjnkohinmabGreat
