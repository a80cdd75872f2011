import Derived.Test.YthlhbjnkohinmaaGreatP09
import Derived.Test.YthlhbjnkohinmaaGreatP04
import Derived.Deep.WholeRow
import Derived.Test.YthlhbjnkohinmaaGreatP05
namespace Go.Proofs.YthlhbjnkohinmaaGreat
set_option maxRecDepth 100000
set_option maxHeartbeats 8000000
open Go.RowKit
theorem td {s:ByteArray}{k:Nat}(hs:2≤s.size)(hk:k<2):bt (s.extract 0 2) k=bt s k:=by
 have h1:(s.extract 0 2).size=2:=by simp;omega
 unfold bt
 rw[dif_pos (by omega),dif_pos (by omega)]
 congr 1
 congr 1
 simp[ByteArray.getElem_extract]
theorem xK (s:ByteArray)(w:World)(_hs63:s.size<9223372036854775808):
  Calls Tryz.prog 42 #[.string s] w fun e w'=>e=.returned (jy s)∧w'=w:=by
 obtain⟨r,hr⟩:∃ r,r=jy s:=⟨_,rfl⟩
 rw[←hr]
 by_cases hs3:s.size=3
 ·have s2:2<s.size:=by omega
  have bb2:=bX s 2
  have hz:(s.extract 0 2).size=2:=by simp;omega
  have hcn:dN (s.extract 0 2)=dN s:=by unfold dN;rw[td (by omega) (by omega),td (by omega) (by omega)]
  have hb:eR s=(eE (s.extract 0 2)&&bN (bt s 2)):=by
   simp only[eR,eE,hs3,hz,td (show 2≤s.size by omega) (show 0<2 by omega),td (show 2≤s.size by omega) (show 1<2 by omega)]
   simp
  have HC:=af (fun W=>p8 (s.extract 0 2) W (by omega))
  cases hc:eE (s.extract 0 2) with
  |false=>
   have e1:gJ (s.extract 0 2)=.tuple #[.int .i64 0,.bool false]:=by unfold gJ;rw[hc];rfl
   rw[e1] at HC
   have HU:Hid (r=.tuple #[.int .i64 0,.int .i64 0,.bool false]):=af (by rw[hr];unfold jy;rw[hb,hc];rfl)
   cases h2:bN (bt s 2) with
   |false=>
    have HD:=af (fun W=>jB (bt s 2) W bb2.1 bb2.2 h2)
    rw[bh s2] at HD
    clear hb hc h2 bb2 hr e1 hcn hz
    go_enter Tryz.func42,Tryz.ntmps42
    go_wp2_with fail
    go_at_call 47
    refine (HC.out _).mono ?_
    rintro e w' ⟨rfl,rfl⟩
    go_wp2_with fail
    go_at_call 80
    refine (HD.out _).mono ?_
    rintro e w' ⟨rfl,rfl⟩
    go_wp2
    go_ret3
    exact⟨by rw[HU.out];rfl,rfl⟩
   |true=>
    have HD:=af (fun W=>iV (bt s 2) W bb2.1 bb2.2 h2)
    rw[bh s2] at HD
    clear hb hc h2 bb2 hr e1 hcn hz
    go_enter Tryz.func42,Tryz.ntmps42
    go_wp2_with fail
    go_at_call 47
    refine (HC.out _).mono ?_
    rintro e w' ⟨rfl,rfl⟩
    go_wp2_with fail
    go_at_call 80
    refine (HD.out _).mono ?_
    rintro e w' ⟨rfl,rfl⟩
    go_wp2
    go_ret3
    exact⟨by rw[HU.out];rfl,rfl⟩
  |true=>
   have e1:gJ (s.extract 0 2)=.tuple #[.int .i64 (dN s),.bool true]:=by unfold gJ;rw[hc,hcn];rfl
   rw[e1] at HC
   cases h2:bN (bt s 2) with
   |false=>
    have HU:Hid (r=.tuple #[.int .i64 0,.int .i64 0,.bool false]):=af (by rw[hr];unfold jy;rw[hb,hc,h2];rfl)
    have HD:=af (fun W=>jB (bt s 2) W bb2.1 bb2.2 h2)
    rw[bh s2] at HD
    clear hb hc h2 bb2 hr e1 hcn hz
    go_enter Tryz.func42,Tryz.ntmps42
    go_wp2_with fail
    go_at_call 47
    refine (HC.out _).mono ?_
    rintro e w' ⟨rfl,rfl⟩
    go_wp2_with fail
    go_at_call 80
    refine (HD.out _).mono ?_
    rintro e w' ⟨rfl,rfl⟩
    go_wp2
    go_ret3
    exact⟨by rw[HU.out];rfl,rfl⟩
   |true=>
    have HU:Hid (r=.tuple #[.int .i64 (dN s),.int .i64 (bt s 2 - 48),.bool true]):=af (by rw[hr];unfold jy;rw[hb,hc,h2];rfl)
    have HD:=af (fun W=>iV (bt s 2) W bb2.1 bb2.2 h2)
    rw[bh s2] at HD HU
    clear hb hc h2 bb2 hr e1 hcn hz
    go_enter Tryz.func42,Tryz.ntmps42
    go_wp2_with fail
    go_at_call 47
    refine (HC.out _).mono ?_
    rintro e w' ⟨rfl,rfl⟩
    go_wp2_with fail
    go_at_call 80
    refine (HD.out _).mono ?_
    rintro e w' ⟨rfl,rfl⟩
    go_wp2
    go_ret3
    exact⟨by rw[HU.out];rfl,rfl⟩
 ·have HU:Hid (r=.tuple #[.int .i64 0,.int .i64 0,.bool false]):=af (by rw[hr];simp[jy,eR,hs3])
  clear hr
  go_enter Tryz.func42,Tryz.ntmps42
  go_wp2
  go_ret3
  exact⟨by rw[HU.out];rfl,rfl⟩
abbrev aw:=Nat×Int×Int
def ld (q:aw):Value:=.agg #[.int .i64 ((q.1:Int) / 10),.int .i64 ((q.1:Int) % 10),.int .i64 q.2.1,.int .i64 q.2.2]
theorem vY (k:Nat)(v t:Int)(w:World)(hk:k<60):
  Calls Tryz.prog 109 #[.int .i64 k,.int .i64 v,.int .i64 t] w fun e w'=>e=.returned (ld (k,v,t))∧w.grownBy w' none:=by
 unfold ld
 go_enter Tryz.func109,Tryz.ntmps109
 go_wp2
 refine bodyPost_ret (results_cell_row Tryz.results109 _ _ _ _ _ _ _ rfl (heap_alloc_new _ _) Tryz.underlying114 rfl (by kernel_rfl)) rfl ⟨rfl,ab (ag _ _) _⟩
theorem mO (k:Nat)(v t:Int)(w:World)(hk:k<60)(hv:0≤v)(hv2:v≤9):
  Calls Tryz.prog 50 #[ld (k,v,t)] w fun e w'=>e=.returned (.string (cA k v))∧w.grownBy w' none:=by
 have h1:(97:Int)+(k:Int) / 10≤255:=by omega
 have h2:(48:Int)+(k:Int) % 10≤255:=by omega
 have h3:(48:Int)+v≤255:=by omega
 have hcv:=run_convert_bytes_arg (P:=Tryz.prog) ((w.alloc (.cells #[.int .i64 ((k:Int) / 10),.int .i64 ((k:Int) % 10),.int .i64 v,.int .i64 t] 114)).alloc (.cells #[.int .u8 (97+(k:Int) / 10),.int .u8 (48+(k:Int) % 10),.int .u8 (48+v)] 5)) 160 5 Tryz.underlying160 Tryz.underlying5 (w.heap.size+1) 0 3 3 [97+(k:Int) / 10,48+(k:Int) % 10,48+v] rfl (by
  intro i hi
  rw[World.cell?_alloc_at _ _ _ _ (by simp)]
  match i,hi with
  |0,_=>rfl
  |1,_=>rfl
  |2,_=>rfl) 9 Tryz.underlying9
 unfold ld
 go_enter Tryz.func50,Tryz.ntmps50
 go_wp2
 go_ret
 exact⟨rfl,ab (ab (ag _ _) _) _⟩
def cu (l:List (Int×Option Int)):List Value:=l.flatMap fun p=>[.int .i64 p.1,.bool p.2.isSome,.int .i64 (p.2.getD 0)]
theorem mT (l:List (Int×Option Int))(p:Int×Option Int):cu (l++[p])=cu l++[.int .i64 p.1,.bool p.2.isSome,.int .i64 (p.2.getD 0)]:=by simp[cu]
theorem iS:∀ (l:List (Int×Option Int))(k:Nat)(hk:k<l.length) ,(cu l)[k*3]?=some (.int .i64 l[k].1)∧(cu l)[k*3+1]?=some (.bool l[k].2.isSome)∧(cu l)[k*3+2]?=some (.int .i64 (l[k].2.getD 0))
 |p::l,0,_=>⟨rfl,rfl,rfl⟩
 |p::l,k+1,hk=>by
  obtain⟨h1,h2,h3⟩:=iS l k (by simpa using hk)
  have e:cu (p::l)=.int .i64 p.1::.bool p.2.isSome::.int .i64 (p.2.getD 0)::cu l:=rfl
  rw[e,show (k+1)*3=k*3+1+1+1 by omega]
  exact⟨by simpa using h1,by simpa using h2,by simpa using h3⟩
theorem wZ {l:List (Int×Option Int)}{t:Int}(h:∀ j (hj:j<l.length),¬l[j].1≤t):aN l t=(0,none):=by
 unfold aN
 have:l.reverse.find? (fun p=>decide (p.1≤t))=none:=by
  rw[List.find?_eq_none]
  intro p hp
  obtain⟨j,hj,rfl⟩:=List.mem_iff_getElem.mp (List.mem_reverse.mp hp)
  simpa using h j hj
 rw[this]
theorem xX {l:List (Int×Option Int)}{t:Int}{k:Nat}(hk:k<l.length)(h1:l[k].1≤t)(h:∀ j (hj:j<l.length),k<j→¬l[j].1≤t):aN l t=l[k]:=by
 unfold aN
 have:l.reverse.find? (fun p=>decide (p.1≤t))=some l[k]:=by
  rw[List.find?_eq_some_iff_getElem]
  refine⟨by simpa using h1,l.length - 1 - k,by simp;omega,?_,?_⟩
  ·simp only[List.getElem_reverse]
   congr 1
   omega
  ·intro j hj
   simp only[List.getElem_reverse,Bool.not_eq_true',decide_eq_false_iff_not]
   exact h _ (by omega) (by omega)
 rw[this]
def rK (p:Int×Option Int):Value:=.agg #[.int .i64 p.1,.bool p.2.isSome,.int .i64 (p.2.getD 0)]
theorem yS (b o:Nat)(l:List (Int×Option Int))(t:Int)(a:Option Addr)(m cp:Nat)(w:World)(hl:l.length≤9223372036854775807)
  (hc:w.cell? ⟨b,o+1,none⟩=some (.slice a m cp)) (h:w.ownsRow 0 138 3 (.slice a m cp) l.length (cu l)) :
  Calls Tryz.prog 94 #[.pointer (some ⟨b,o,none⟩),.int .i64 t] w fun e w'=>e=.returned (rK (aN l t))∧w.grownBy w' none:=by
 have em:=ar h
 subst em
 obtain⟨r,hr⟩:∃ r,r=aN l t:=⟨_,rfl⟩
 rw[←hr]
 have HR:=af hr
 clear hr
 have hbl:=World.block_lt_of_cell? w _ hc
 have hbz:b≠w.heap.size:=by simp at hbl;omega
 go_enter Tryz.func94,Tryz.ntmps94
 go_wp2_with fail
 go_loop [5] (fun i=>∃ k:Nat,k≤l.length∧i=.int .i64 ((k:Int) - 1)∧∀ j (h:j<l.length),k≤j→¬l[j].1≤t) (fun i=>(intOf i+1).toNat)
 case atStart=>exact⟨l.length,Nat.le_refl _,rfl,fun j h1 h2=>by omega⟩
 case round=>
  obtain⟨k,hk,rfl,hno⟩:=hrel
  have HN:=af hno
  clear hno
  cases k with
  |zero=>
   have HU:Hid (r=(0,none)):=af (by rw[HR.out];exact wZ (fun j hj=>HN.out j hj (Nat.zero_le _)))
   go_wp2
   refine bodyPost_ret (v:=rK (0,none)) (results_cell_row Tryz.results94 _ _ _ _ _ _ _ rfl (heap_alloc_new _ _) Tryz.underlying138 rfl (by kernel_rfl)) rfl ⟨by rw[HU.out],ab (ag _ _) _⟩
  |succ k=>
   have hlt:k<l.length:=by omega
   obtain⟨g,rfl,_,hgb,hgl,hcell⟩:=aE h (by omega)
   have d0:=hcell _ _ (iS l k hlt).1
   have d1:=hcell _ _ (iS l k hlt).2.1
   have d2:=hcell _ _ (iS l k hlt).2.2
   have hk0:((k+1:Nat):Int) - 1=(k:Int):=by omega
   rw[hk0]
   clear hcell
   have hgz:g≠w.heap.size:=by omega
   obtain⟨u,hu⟩:∃ u,u=l[k].1:=⟨_,rfl⟩
   obtain⟨q,hq⟩:∃ q,q=l[k].2:=⟨_,rfl⟩
   rw[←hu] at d0
   rw[←hq] at d1 d2
   have HX:=af hu
   have HQ:=af hq
   clear hu hk0 hq
   by_cases he:u≤t
   ·have HU:Hid (r=(u,q)):=af (by rw[HR.out,HQ.out,HX.out];exact xX hlt (by rw[←HX.out];exact he) (fun j hj hkj=>HN.out j hj (by omega)))
    go_wp2
    try simp only[Exit.inBlock,Exit.then]
    refine bodyPost_ret (v:=rK (u,q)) (results_cell_row Tryz.results94 _ _ _ _ _ _ _ rfl (heap_alloc_new _ _) Tryz.underlying138 rfl (by kernel_rfl)) rfl ⟨by rw[HU.out],ab (ag _ _) _⟩
   ·have HN':Hid (∀ j (h:j<l.length),k≤j→¬l[j].1≤t):=af (by
     intro j hj hkj
     by_cases e:j=k
     ·subst e;rw[←HX.out];exact he
     ·exact HN.out j hj (by omega))
    go_wp2
    go_round
    case rel=>exact⟨k,by omega,rfl,HN'.out⟩
    case measure=>simp[intOf]
structure jo (w:World)(b o:Nat)(X:ap)(kv:Nat→Value):Prop where
 latest:w.cell? ⟨b,o,none⟩=some (.int .i64 X.latest)
 last:∀ c,c<60→w.cell? ⟨b,o+1+c*2,none⟩=some (.int .i64 (X.last c))
 kept:∀ c,c<60→w.cell? ⟨b,o+1+c*2+1,none⟩=some (kv c)
def oE (w:World)(X:ap)(kv:Nat→Value):Prop:=∀ c,c<60→w.ownsRow 0 138 3 (kv c) (X.hist c).length (cu (X.hist c))
structure jg (sc:Array Value)(k:Nat)(f:Nat→Int×Option Int):Prop where
 size:sc.size=180
 stamp:∀ c,c<k→sc[c*3]?=some (.int .i64 (f c).1)
 fill:∀ c,c<k→sc[c*3+1]?=some (.bool (f c).2.isSome)
 val:∀ c,c<k→sc[c*3+2]?=some (.int .i64 ((f c).2.getD 0))
theorem jg.one {sc:Array Value}{f:Nat→Int×Option Int}(h:jg sc 60 f):sc.all (·.oneCell')=true:=by
 rw[Array.all_eq_true]
 intro j hj
 have hs:=h.size
 have h0:=h.stamp (j / 3) (by omega)
 have h1:=h.fill (j / 3) (by omega)
 have h2:=h.val (j / 3) (by omega)
 have e:j / 3*3=j∨j / 3*3+1=j∨j / 3*3+2=j:=by omega
 rcases e with e|e|e
 ·rw[e,Array.getElem?_eq_getElem hj] at h0
  simp only[Option.some.injEq] at h0
  rw[h0];rfl
 ·rw[e,Array.getElem?_eq_getElem hj] at h1
  simp only[Option.some.injEq] at h1
  rw[h1];rfl
 ·rw[e,Array.getElem?_eq_getElem hj] at h2
  simp only[Option.some.injEq] at h2
  rw[h2];rfl
theorem jg.step {sc:Array Value}{k:Nat}{f:Nat→Int×Option Int}(h:jg sc k f)(hk:k<60):jg (((sc.setIfInBounds (k*3) (.int .i64 (f k).1)).setIfInBounds (k*3+1) (.bool (f k).2.isSome)).setIfInBounds (k*3+2) (.int .i64 ((f k).2.getD 0))) (k+1) f:=by
 have hs:=h.size
 refine⟨by simp[hs],fun c hc=>?_,fun c hc=>?_,fun c hc=>?_⟩
 ·rw[Array.getElem?_setIfInBounds_ne (by omega),Array.getElem?_setIfInBounds_ne (by omega)]
  by_cases e:c=k
  ·subst e
   rw[Array.getElem?_setIfInBounds_self_of_lt (by omega)]
  ·rw[Array.getElem?_setIfInBounds_ne (by omega)]
   exact h.stamp c (by omega)
 ·rw[Array.getElem?_setIfInBounds_ne (by omega)]
  by_cases e:c=k
  ·subst e
   rw[Array.getElem?_setIfInBounds_self_of_lt (by simp;omega)]
  ·rw[Array.getElem?_setIfInBounds_ne (by omega),Array.getElem?_setIfInBounds_ne (by omega)]
   exact h.fill c (by omega)
 ·by_cases e:c=k
  ·subst e
   rw[Array.getElem?_setIfInBounds_self_of_lt (by simp;omega)]
  ·rw[Array.getElem?_setIfInBounds_ne (by omega),Array.getElem?_setIfInBounds_ne (by omega),Array.getElem?_setIfInBounds_ne (by omega)]
   exact h.val c (by omega)
theorem uM {P:Program}{op:Oper}{a:Act}{w:World}{K:Act→World→Prop}{Q:Exit→Act→World→Prop}(ty:TypeId)(x:Operand)(ho:op.op=.load ty x)
  (b:Nat) (hx:a.eval x=.pointer (some ⟨b,0,none⟩)) (cs:Array Value) (t:TypeId) (fr:Nat×Nat) (d:TypeDesc) (hb:w.heap[b]?=some (.cells cs t fr))
  (hu:P.underlying ty=some d) (hd:(match d with|.struct _|.array _ _=>true|_=>false)=true) (hi:(P.info? ty).map (·.size)=some cs.size)
  (h:K (a.put op.dst (.agg cs)) w):op.wp P a w K Q:=by
 unfold Oper.wp execOp
 simp only[ho,hx,Instr.loadAt,Instr.sureAddr,Sem.run_bind,Sem.run_pure,Result.andThen_ok,run_loadVar_row w b t ty cs fr d hb hu hd hi]
 exact h
theorem sR {P:Program}{op:Oper}{a:Act}{w:World}{K:Act→World→Prop}{Q:Exit→Act→World→Prop}(ty:TypeId)(x y:Operand)(ho:op.op=.store ty x y)
  (b:Nat) (hx:a.eval x=.pointer (some ⟨b,0,none⟩)) (cs old:Array Value) (hy:a.eval y=.agg cs) (t:TypeId) (hb:w.heap[b]?=some (.cells old t (0,0)))
  (hi:(P.info? ty).map (·.size)=some cs.size) (hs:old.size=cs.size) (h1:cs.all (·.oneCell')=true)
  (h:K (a.put op.dst undef) (w.setRow b cs)):op.wp P a w K Q:=by
 unfold Oper.wp execOp
 simp only[ho,hx,hy,Instr.storeAt,Instr.sureAddr,Sem.run_bind,Sem.run_pure,Result.andThen_ok,run_storeVar_row w b t ty old cs hb hi hs h1]
 exact h
theorem oV {P:Program}{ops:Array Oper}{rest:List Oper}{op:Oper}{a:Act}{w:World}{Q:Exit→Act→World→Prop}(hgd:op.guard=none)(ty:TypeId)(x:Operand)(ho:op.op=.load ty x)
  (b:Nat) (hx:a.eval x=.pointer (some ⟨b,0,none⟩)) (cs:Array Value) (t:TypeId) (fr:Nat×Nat) (d:TypeDesc) (hb:w.heap[b]?=some (.cells cs t fr))
  (hu:P.underlying ty=some d) (hd:(match d with|.struct _|.array _ _=>true|_=>false)=true) (hi:(P.info? ty).map (·.size)=some cs.size)
  (h:wpList P ops Q rest (a.put op.dst (.agg cs)) w):wpList P ops Q (op::rest) a w:=
 wpList_plain hgd fun _ hK=>uM ty x ho b hx cs t fr d hb hu hd hi (hK _ _ h)
theorem nK {P:Program}{ops:Array Oper}{rest:List Oper}{op:Oper}{a:Act}{w:World}{Q:Exit→Act→World→Prop}(hgd:op.guard=none)(ty:TypeId)(x y:Operand)(ho:op.op=.store ty x y)
  (b:Nat) (hx:a.eval x=.pointer (some ⟨b,0,none⟩)) (cs old:Array Value) (hy:a.eval y=.agg cs) (t:TypeId) (hb:w.heap[b]?=some (.cells old t (0,0)))
  (hi:(P.info? ty).map (·.size)=some cs.size) (hs:old.size=cs.size) (h1:cs.all (·.oneCell')=true)
  (h:wpList P ops Q rest (a.put op.dst undef) (w.setRow b cs)):wpList P ops Q (op::rest) a w:=
 wpList_plain hgd fun _ hK=>sR ty x y ho b hx cs old hy t hb hi hs h1 (hK _ _ h)
theorem tC {w w':World}{r:Option Nat}(h:w.grownBy w' r){b:Nat}(hb:w.heap.size≤b)(cs:Array Value):w.grownBy (w'.setRow b cs) r:=
 ⟨h.os,h.tape,h.output,by simpa using h.size,fun k hk hr=>by rw[setRow_other _ _ _ _ (by omega)];exact h.block k hk hr⟩
def iP:Array Value:=((List.replicate 60 [Value.int .i64 0,Value.bool false,Value.int .i64 0]).flatten).toArray
theorem io:iP.size=180:=by kernel_rfl
theorem Tryz.zinfo139:(Tryz.prog.info? 139).map (fun i=>(i.zero,i.size))=some (some (.agg iP),180):=by kernel_rfl
theorem am {w w':World}(h:w.grownBy w' none){a:Addr}{v:Value}(hc:w.cell? a=some v):w'.cell? a=some v:=h.cell hc (by simp)
theorem jw {w w':World}(h:w.grownBy w' none){e:TypeId}{s n:Nat}{v:Value}{xs:List Value}(ho:w.ownsRow 0 e s v n xs):w'.ownsRow 0 e s v n xs:=aq ho h (fun g hg=>by cases hg)
theorem yR (b o:Nat)(X:ap)(kv:Nat→Value)(t:Int)(w:World)(hS:jo w b o X kv)(hR:oE w X kv)(hl:∀ c,c<60→(X.hist c).length≤9223372036854775807):
  Calls Tryz.prog 65 #[.pointer (some ⟨b,o,none⟩),.int .i64 t] w fun e w'=>(∃ sc,e=.returned (.agg sc)∧jg sc 60 (fun c=>aN (X.hist c) t))∧w.grownBy w' none:=by
 obtain⟨hz,hzs⟩:=zero_of_info Tryz.zinfo139
 obtain⟨z,hzz⟩:∃ z,z=iP:=⟨_,rfl⟩
 have hzsz:Hid (z.size=180):=af (by rw[hzz];exact io)
 rw[←hzz] at hz
 have HZS:=af hzs
 clear hzz hzs
 have hbl:b<w.heap.size:=World.block_lt_of_cell? w _ hS.latest
 have HAT:Hid (∀ c,c<60→∀ W,w.grownBy W none→Calls Tryz.prog 94 #[.pointer (some ⟨b,o+1+c*2,none⟩),.int .i64 t] W fun e w'=>e=.returned (rK (aN (X.hist c) t))∧W.grownBy w' none):=af (by
  intro c hc W hg
  have h1:=hR c hc
  have h2:=hS.kept c hc
  obtain⟨a,m,cp,e⟩:=an h1
  rw[e] at h1 h2
  exact yS b (o+1+c*2) (X.hist c) t a m cp W (hl c hc) (am hg h2) (jw hg h1))
 clear hS hR hl
 go_enter Tryz.func65,Tryz.ntmps65
 go_wp2_with fail
 go_loopw [6] (fun i wr=>∃ k:Nat,k≤60∧i=.int .i64 k∧w.grownBy wr none∧wr.heap[w.heap.size]?=some (.cells z 139 (0,0))∧∃ sc,wr.heap[w.heap.size+1]?=some (.cells sc 139 (0,0))∧jg sc k (fun c=>aN (X.hist c) t)) (fun i _=>60 - (intOf i).toNat)
 case atStart=>
  refine⟨0,by omega,rfl,ab (ab (ag _ _) _) _,?_,z,?_,hzsz.out,fun c h=>by omega,fun c h=>by omega,fun c h=>by omega⟩
  ·exact (Below.heap_alloc _ _ _ (by simp)).trans (heap_alloc_new w _)
  ·have:=heap_alloc_new (w.alloc (.cells z 139)) (.cells z 139)
   simpa using this
 case round=>
  obtain⟨k,hk,rfl,hg,hb0,sc,hb1,hsc⟩:=hrel
  have HG:=af hg
  have HB0:=af hb0
  have HSC:=af hsc
  have HB1:=af hb1
  clear hg hb0 hsc hb1
  by_cases hlt:k<60
  ·have HC:=af (HAT.out k hlt _ HG.out)
   obtain⟨v,hv⟩:∃ v,v=aN (X.hist k) t:=⟨_,rfl⟩
   rw[←hv] at HC
   have HV:=af hv
   clear hv
   unfold rK at HC
   go_wp2_with fail
   go_at_call 94
   refine HC.out.mono ?_
   rintro e w1 ⟨rfl,hg1⟩
   have hl1:=lt_of_block HB1.out
   have hb1:=(hg1.block _ hl1 (by simp)).trans HB1.out
   have HB2:=af hb1
   have x0:w1.cell? ⟨w.heap.size+1,k*3,none⟩=some (sc[k*3]'(by have:=HSC.out.size;omega)):=by simp[World.cell?,hb1]
   have x1:w1.cell? ⟨w.heap.size+1,k*3+1,none⟩=some (sc[k*3+1]'(by have:=HSC.out.size;omega)):=by simp[World.cell?,hb1]
   have x2:w1.cell? ⟨w.heap.size+1,k*3+2,none⟩=some (sc[k*3+2]'(by have:=HSC.out.size;omega)):=by simp[World.cell?,hb1]
   have z0:=ai hb1 (k*3)
   have z1:=ai hb1 (k*3+1)
   have z2:=ai hb1 (k*3+2)
   have HG1:=af (ae HG.out hg1)
   have HB3:=af ((hg1.block _ (lt_of_block HB0.out) (by simp)).trans HB0.out)
   clear hg1 hb1 HC HB0 HB1 HG
   generalize sc[k*3]'_=y0 at x0
   generalize sc[k*3+1]'_=y1 at x1
   generalize sc[k*3+2]'_=y2 at x2
   go_wp2_with fail
   go_roundw
   case rel=>
    refine⟨k+1,by omega,by go_num,aj (aj (aj HG1.out (.inr (by simp)) _) (.inr (by simp)) _) (.inr (by simp)) _,?_,_,ah (ah (ah HB2.out _ _) _ _) _ _,?_⟩
    ·rw[Below.heap_setCell _ _ _ _ (by simp),Below.heap_setCell _ _ _ _ (by simp),Below.heap_setCell _ _ _ _ (by simp)]
     exact HB3.out
    ·rw[HV.out]
     exact HSC.out.step hlt
   case measure=>simp[intOf];omega
  ·have hk60:k=60:=by omega
   subst hk60
   have HONE:=af HSC.out.one
   have HSZ:=af HSC.out.size
   go_wp2_with (first|(refine oV rfl 139 (.tmp 5) rfl (w.heap.size+1) rfl sc _ _ _ HB1.out Tryz.underlying139 rfl (HZS.out.trans (by rw[HSZ.out])) ?_)|(refine nK rfl 139 (.tmp 4) (.tmp 20) rfl w.heap.size rfl sc z rfl _ HB0.out (HZS.out.trans (by rw[HSZ.out])) (by rw[HSZ.out,hzsz.out]) HONE.out ?_))
   refine bodyPost_ret (v:=.agg sc) (results_cell_row Tryz.results65 _ _ _ _ _ _ _ rfl (setRow_heap _ _ _ _ _ _ HB0.out) Tryz.underlying139 rfl (HZS.out.trans (by rw[HSZ.out]))) rfl ⟨⟨sc,rfl,HSC.out⟩,tC HG.out (Nat.le_refl _) _⟩
def cN (S:aJ)(f:Nat→Int×Option Int)(c:Nat):Option (Int×Int):=match S.wr c with
 |some v=>v.map fun x=>(x,S.tm c)
 |none=>(f c).2.map fun x=>(x,(f c).1)
def dk (S:aJ)(f:Nat→Int×Option Int)(n:Nat):List aw:=(List.range n).filterMap fun c=>(cN S f c).map fun p=>(c,p.1,p.2)
theorem zl (S:aJ)(f:Nat→Int×Option Int)(n:Nat):dk S f (n+1)=dk S f n++((cN S f n).map fun p=>(n,p.1,p.2)).toList:=by
 unfold dk
 rw[List.range_succ,List.filterMap_append]
 cases h:cN S f n <;> simp[h]
theorem iC (S:aJ)(f:Nat→Int×Option Int)(n:Nat):(dk S f n).length≤n:=by
 have:=List.length_filterMap_le (fun c=>(cN S f c).map fun p=>((c,p.1,p.2):aw)) (List.range n)
 simpa [dk] using this
theorem kz (c:Nat)(v:Int):(cA c v).size=3:=rfl
def bG (l:List aw):List Value:=l.flatMap fun q=>[.int .i64 ((q.1:Int) / 10),.int .i64 ((q.1:Int) % 10),.int .i64 q.2.1,.int .i64 q.2.2]
theorem nG (l:List aw)(q:aw):bG (l++[q])=bG l++[.int .i64 ((q.1:Int) / 10),.int .i64 ((q.1:Int) % 10),.int .i64 q.2.1,.int .i64 q.2.2]:=by simp[bG]
theorem l8:∀ (l:List aw)(k:Nat)(hk:k<l.length) ,(bG l)[k*4]?=some (.int .i64 ((l[k].1:Int) / 10))∧(bG l)[k*4+1]?=some (.int .i64 ((l[k].1:Int) % 10))∧(bG l)[k*4+2]?=some (.int .i64 l[k].2.1)∧(bG l)[k*4+3]?=some (.int .i64 l[k].2.2)
 |p::l,0,_=>⟨rfl,rfl,rfl,rfl⟩
 |p::l,k+1,hk=>by
  obtain⟨h1,h2,h3,h4⟩:=l8 l k (by simpa using hk)
  have e:bG (p::l)=.int .i64 ((p.1:Int) / 10)::.int .i64 ((p.1:Int) % 10)::.int .i64 p.2.1::.int .i64 p.2.2::bG l:=rfl
  rw[e,show (k+1)*4=k*4+1+1+1+1 by omega]
  exact⟨by simpa using h1,by simpa using h2,by simpa using h3,by simpa using h4⟩
theorem Tryz.info114:(Tryz.prog.info? 114).map (fun i=>(i.zero,i.size,i.bytes))=some (some (.agg #[.int .i64 0,.int .i64 0,.int .i64 0,.int .i64 0]),4,32):=by kernel_rfl
theorem r9 (b o:Nat)(S:aJ)(f:Nat→Int×Option Int)(sc:Array Value)(w:World)(h:cJ w b o S)(hsc:jg sc 60 f):
  Calls Tryz.prog 83 #[.pointer (some ⟨b,o,none⟩),.agg sc] w fun e w'=>∃ v,e=.returned v∧w'.ownsRow w.heap.size 114 4 v (dk S f 60).length (bG (dk S f 60))∧w.grownBy w' none:=by
 obtain⟨i0,hi0,hz0,hz1,hz2⟩:=info_parts Tryz.info114
 have hbl:b<w.heap.size:=World.block_lt_of_cell? w _ h.num
 have HS:=af h
 have HSC:=af hsc
 clear h hsc
 go_enter Tryz.func83,Tryz.ntmps83
 go_wp2_with fail
 go_loopw [5,6] (fun t i wr=>∃ k:Nat,k≤60∧i=.int .i64 k∧wr.ownsRow w.heap.size 114 4 t (dk S f k).length (bG (dk S f k))∧w.grownBy wr none∧wr.heap[w.heap.size]?=some (.cells sc 139 (0,0))) (fun _ i _=>60 - (intOf i).toNat)
 case atStart=>exact⟨0,by omega,rfl,World.ownsRow_nil _ _ _ _,ab (ag _ _) _,heap_alloc_new w _⟩
 case round=>
  obtain⟨k,hk,rfl,hown,hg,hb0⟩:=hrel
  have HG:=af hg
  have HB0:=af hb0
  have HOW:=af hown
  by_cases hlt:k<60
  ·have d0:wr.cell? ⟨w.heap.size,k*3,none⟩=some (.int .i64 (f k).1):=by rw[cell_of_row _ _ _ _ _ _ hb0];exact HSC.out.stamp k hlt
   have d1:wr.cell? ⟨w.heap.size,k*3+1,none⟩=some (.bool (f k).2.isSome):=by rw[cell_of_row _ _ _ _ _ _ hb0];exact HSC.out.fill k hlt
   have d2:wr.cell? ⟨w.heap.size,k*3+2,none⟩=some (.int .i64 ((f k).2.getD 0)):=by rw[cell_of_row _ _ _ _ _ _ hb0];exact HSC.out.val k hlt
   have m0:=am hg (HS.out.made k hlt)
   have m1:=am hg (HS.out.filled k hlt)
   have m2:=am hg (HS.out.val k hlt)
   have m3:=am hg (HS.out.tm k hlt)
   have hsz:=hg.size
   have hl0:=lt_of_block hb0
   have z1:b≠wr.heap.size:=by omega
   have z2:w.heap.size≠wr.heap.size:=by omega
   have z3:b<wr.heap.size:=by omega
   have z4:w.heap.size<wr.heap.size:=hl0
   have HJ:=af (zl S f k)
   have hjl:=iC S f k
   obtain⟨f0,hf0⟩:∃ f0,f0=(f k).1:=⟨_,rfl⟩
   obtain⟨f1,hf1⟩:∃ f1,f1=(f k).2.isSome:=⟨_,rfl⟩
   obtain⟨f2,hf2⟩:∃ f2,f2=(f k).2.getD 0:=⟨_,rfl⟩
   obtain⟨tk,htk⟩:∃ tk,tk=S.tm k:=⟨_,rfl⟩
   rw[←hf0] at d0
   rw[←hf1] at d1
   rw[←hf2] at d2
   rw[←htk] at m3
   have HF0:=af hf0
   have HF1:=af hf1
   have HF2:=af hf2
   have HTK:=af htk
   obtain⟨a,m,c,rfl⟩:=an hown
   have em:=ar hown
   subst em
   clear hg hb0 hl0 hf0 hf1 hf2 htk hown
   have hskip:Hid (cN S f k=none→∀ W,wr.grownBy W none→W.ownsRow w.heap.size 114 4 (.slice a (dk S f k).length c) (dk S f (k+1)).length (bG (dk S f (k+1)))∧w.grownBy W none∧W.heap[w.heap.size]?=some (.cells sc 139 (0,0))):=af (fun e W hW=>⟨by
    have:=aq HOW.out hW (fun g hg=>by cases hg)
    rw[HJ.out,e];simpa using this,ae HG.out hW,(hW.block _ (lt_of_block HB0.out) (by simp)).trans HB0.out⟩)
   have hadd:Hid (∀ v t,cN S f k=some (v,t)→dk S f (k+1)=dk S f k++[(k,v,t)]):=af (fun v t e=>by rw[HJ.out,e];rfl)
   have HNF:Hid (∀ (v t:Int) (W:World),Calls Tryz.prog 109 #[.int .i64 k,.int .i64 v,.int .i64 t] W fun e w'=>e=.returned (.agg #[.int .i64 ((k:Int) / 10),.int .i64 ((k:Int) % 10),.int .i64 v,.int .i64 t])∧W.grownBy w' none):=af (fun v t W=>vY k v t W hlt)
   have HFIN:Hid (∀ (v t:Int) (W w3:World) (v':Value),cN S f k=some (v,t)→wr.grownBy W none→w3.ownsRow w.heap.size 114 4 v' ((dk S f k).length+1) (bG (dk S f k)++[.int .i64 ((k:Int) / 10),.int .i64 ((k:Int) % 10),.int .i64 v,.int .i64 t])→W.grownBy w3 (Value.slice a (dk S f k).length c).ownBlock→w3.ownsRow w.heap.size 114 4 v' (dk S f (k+1)).length (bG (dk S f (k+1)))∧w.grownBy w3 none∧w3.heap[w.heap.size]?=some (.cells sc 139 (0,0))):=af (by
    intro v t W w3 v' e hW how hg3
    refine⟨?_,aL (ae HG.out hW) hg3 (fun g hg=>(HOW.out.lt g hg).1),?_⟩
    ·rw[hadd.out v t e,nG];simpa using how
    ·have h1:=(hW.block _ (lt_of_block HB0.out) (by simp)).trans HB0.out
     refine (hg3.block _ (lt_of_block h1) ?_).trans h1
     intro e2
     exact aT HOW.out HB0.out (by decide) e2.symm)
   have HOWG:Hid (∀ W,wr.grownBy W none→W.ownsRow w.heap.size 114 4 (.slice a (dk S f k).length c) (dk S f k).length (bG (dk S f k))):=af (fun W hW=>aq HOW.out hW (fun g hg=>by cases hg))
   obtain⟨nl,hnl⟩:∃ nl,nl=(dk S f k).length:=⟨_,rfl⟩
   obtain⟨xs,hxs⟩:∃ xs,xs=bG (dk S f k):=⟨_,rfl⟩
   rw[←hnl] at hskip HFIN HOWG hjl ⊢
   rw[←hxs] at HFIN HOWG
   clear hnl hxs HJ hadd
   cases hw:S.wr k with
   |none=>
    rw[hw] at m0 m1 m2
    simp only[iX,gX,rq,Option.isSome_none] at m0 m1 m2
    have hsw:cN S f k=(f k).2.map fun x=>(x,(f k).1):=by unfold cN;rw[hw]
    cases hfk:(f k).2 with
    |none=>
     have e0:f1=false:=by rw[HF1.out,hfk];rfl
     subst e0
     have HSK:=af (hskip.out (by rw[hsw,hfk];rfl))
     clear hw hsw hfk hskip HFIN HF0 HF1 HF2 HTK HNF HOWG
     go_wp2_with fail
     go_roundw
     case rel=>
      obtain⟨q1,q2,q3⟩:=HSK.out _ (ab (ag wr none) _)
      exact⟨k+1,by omega,by go_num,q1,q2,q3⟩
     case measure=>simp[intOf];omega
    |some v=>
     have e0:f1=true:=by rw[HF1.out,hfk];rfl
     have e1:f2=v:=by rw[HF2.out,hfk];rfl
     subst e0
     subst e1
     have HFI:=af (fun W w3 v'=>HFIN.out f2 f0 W w3 v' (by rw[hsw,hfk,HF0.out];rfl))
     clear hw hsw hfk hskip HFIN HF0 HF1 HF2 HTK
     go_wp2_with fail
     go_at_call 109
     refine (HNF.out _ _ _).mono ?_
     rintro e w1 ⟨rfl,hg1⟩
     have hgW:=ae (ab (ag wr none) (.cells #[.bool true,.int .i64 f2] 74)) hg1
     have HGW:=af hgW
     have how1:=HOWG.out _ (ab hgW (.cells #[.int .i64 ((k:Int) / 10),.int .i64 ((k:Int) % 10),.int .i64 f2,.int .i64 f0] 114))
     have hsw1:w.heap.size≤w1.heap.size:=by have:=hgW.size;omega
     clear hgW hg1 HOWG
     go_wp2_with (first|(at_builtin;refine wpList_append_own _ rfl (.tmp 44) (.tmp 50) 111 rfl (w.heap.size) 114 i0 (.agg #[.int .i64 0,.int .i64 0,.int .i64 0,.int .i64 0]) 4 32 Tryz.underlying111 hi0 hz0 hz1 hz2 rfl (by decide) _ _ _ rfl how1 _ 1 1 [.int .i64 ((k:Int) / 10),.int .i64 ((k:Int) % 10),.int .i64 f2,.int .i64 f0] rfl rfl ?c1 ?c2 ?c3 ?c4 ?c5 ?_))
     case c1=>intro j u hj;exact bj hj
     case c2=>intro u hu;simp at hu;rcases hu with h|h|h|h <;> subst h <;> rfl
     case c3=>unfold maxLen;omega
     case c4=>omega
     case c5=>simp;omega
     ·intro v' w3 hown3 hg3 _
      have HO3:=af hown3
      have HG3:=af hg3
      clear hown3 hg3
      go_wp2_with fail
      go_roundw
      case rel=>
       obtain⟨q1,q2,q3⟩:=HFI.out _ _ _ (ab HGW.out _) HO3.out HG3.out
       exact⟨k+1,by omega,by go_num,q1,q2,q3⟩
      case measure=>simp[intOf];omega
   |some p=>
    rw[hw] at m0 m1 m2
    have hsw:cN S f k=p.map fun x=>(x,S.tm k):=by unfold cN;rw[hw]
    cases p with
    |none=>
     simp only[iX,gX,rq,Option.isSome_some] at m0 m1 m2
     have HSK:=af (hskip.out hsw)
     clear hw hsw hskip HFIN HF0 HF1 HF2 HTK HNF HOWG
     go_wp2_with fail
     go_roundw
     case rel=>
      obtain⟨q1,q2,q3⟩:=HSK.out _ (ab (ag wr none) _)
      exact⟨k+1,by omega,by go_num,q1,q2,q3⟩
     case measure=>simp[intOf];omega
    |some v=>
     simp only[iX,gX,rq,Option.isSome_some] at m0 m1 m2
     have HFI:=af (fun W w3 v'=>HFIN.out v tk W w3 v' (by rw[hsw,HTK.out];rfl))
     clear hw hsw hskip HFIN HF0 HF1 HF2 HTK
     go_wp2_with fail
     go_at_call 109
     refine (HNF.out _ _ _).mono ?_
     rintro e w1 ⟨rfl,hg1⟩
     have hgW:=ae (ab (ag wr none) (.cells #[.bool true,.int .i64 v] 74)) hg1
     have HGW:=af hgW
     have how1:=HOWG.out _ (ab hgW (.cells #[.int .i64 ((k:Int) / 10),.int .i64 ((k:Int) % 10),.int .i64 v,.int .i64 tk] 114))
     have hsw1:w.heap.size≤w1.heap.size:=by have:=hgW.size;omega
     clear hgW hg1 HOWG
     go_wp2_with (first|(at_builtin;refine wpList_append_own _ rfl (.tmp 44) (.tmp 50) 111 rfl (w.heap.size) 114 i0 (.agg #[.int .i64 0,.int .i64 0,.int .i64 0,.int .i64 0]) 4 32 Tryz.underlying111 hi0 hz0 hz1 hz2 rfl (by decide) _ _ _ rfl how1 _ 1 1 [.int .i64 ((k:Int) / 10),.int .i64 ((k:Int) % 10),.int .i64 v,.int .i64 tk] rfl rfl ?c1 ?c2 ?c3 ?c4 ?c5 ?_))
     case c1=>intro j u hj;exact bj hj
     case c2=>intro u hu;simp at hu;rcases hu with h|h|h|h <;> subst h <;> rfl
     case c3=>unfold maxLen;omega
     case c4=>omega
     case c5=>simp;omega
     ·intro v' w3 hown3 hg3 _
      have HO3:=af hown3
      have HG3:=af hg3
      clear hown3 hg3
      go_wp2_with fail
      go_roundw
      case rel=>
       obtain⟨q1,q2,q3⟩:=HFI.out _ _ _ (ab HGW.out _) HO3.out HG3.out
       exact⟨k+1,by omega,by go_num,q1,q2,q3⟩
      case measure=>simp[intOf];omega
  ·have hk60:k=60:=by omega
   subst hk60
   clear hg hb0
   go_wp2_with fail
   go_ret
   exact⟨_,rfl,HOW.out,HG.out⟩
end Go.Proofs.YthlhbjnkohinmaaGreat
