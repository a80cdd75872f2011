import Derived.Test.YthlhbjnkohinmabGreatP16
import Derived.Test.YthlhbjnkohinmabGreatP14
namespace Go.Proofs.YthlhbjnkohinmabGreat
set_option maxRecDepth 100000
set_option maxHeartbeats 8000000
open Go.RowKit
def oo (e:fu):List Value:=[.bool (dB e 0),.bool (dB e 1),.bool (dB e 2),.bool (dB e 3),.int .i64 (dI e 0),.int .i64 (dI e 1),.int .i64 (dI e 2),.int .i64 (dI e 3)]
def nV (q:aw):List Value:=[.int .i64 ((q.1:Int) / 10),.int .i64 ((q.1:Int) % 10),.int .i64 q.2.1,.int .i64 q.2.2]
def Ce (k c g t1 t2:Int):List Value:=[.int .i64 k,.int .i64 (c - 97),.int .u8 g,.int .i64 (dw t1),.int .i64 (dD t1),.int .i64 (dw t2),.int .i64 (dD t2)]
theorem eC (wt:Int)(i:In):(aG wt i).length=24:=rfl
theorem cm (wt:Int)(i:In):∀ v∈aG wt i,v.oneCell'=true:=by
 intro v hv
 simp only[aG,List.mem_cons,List.not_mem_nil,or_false] at hv
 rcases hv with h|h|h|h|h|h|h|h|h|h|h|h|h|h|h|h|h|h|h|h|h|h|h|h <;> rw[h] <;> rfl
theorem uJ (e:fu):∀ v∈oo e,v.oneCell'=true:=by
 intro v hv
 simp only[oo,List.mem_cons,List.not_mem_nil,or_false] at hv
 rcases hv with h|h|h|h|h|h|h|h <;> rw[h] <;> rfl
theorem mX (q:aw):∀ v∈nV q,v.oneCell'=true:=by
 intro v hv
 simp only[nV,List.mem_cons,List.not_mem_nil,or_false] at hv
 rcases hv with h|h|h|h <;> rw[h] <;> rfl
theorem As (wt:Int)(i:In)(q:aw)(e:fu)(hl:i.facts.length<3)(hq:ce i.facts<q.2.2):
  aG wt ⟨i.rule,i.facts++[q],e⟩=((dU (dU (aG wt i) 16 (oo e)) (4+i.facts.length*4) (nV q)).set 3 (.int .i64 (i.facts.length+1))).set 2 (.int .i64 q.2.2):=by
 obtain⟨r,l,e0⟩:=i
 have h:ce (l++[q])=q.2.2:=by rw[sL,if_pos hq]
 unfold aG
 simp only[]
 rw[h]
 clear h hq
 match l,hl with
 |[],_=>rfl
 |[a],_=>rfl
 |[a,b],_=>rfl
theorem AM (wt:Int)(i:In)(q:aw)(e:fu)(hl:i.facts.length<3)(hq:q.2.2≤ce i.facts):
  aG wt ⟨i.rule,i.facts++[q],e⟩=(dU (dU (aG wt i) 16 (oo e)) (4+i.facts.length*4) (nV q)).set 3 (.int .i64 (i.facts.length+1)):=by
 obtain⟨r,l,e0⟩:=i
 have h:ce (l++[q])=ce l:=by rw[sL,if_neg (by simp only[] at hq;omega)]
 unfold aG
 simp only[]
 rw[h]
 clear h hq
 match l,hl with
 |[],_=>rfl
 |[a],_=>rfl
 |[a,b],_=>rfl
def qf (wt:Int)(i:In)(c t1 t2:Int)(q:aw):Value:=match gd i.env c t1 t2 q with
 |some e=>.tuple #[FV wt ⟨i.rule,i.facts++[q],e⟩,.bool true]
 |none=>.tuple #[FV wt i,.bool false]
theorem A0 (wt:Int)(i:In)(k c g t1 t2:Int)(q:aw)(w:World)(hl:i.facts.length<3)(h1:c8 t1=true)(h2:c8 t2=true):
  Calls Tryz.prog 127 #[FV wt i,jo k c g t1 t2,kQ q] w fun r w'=>r=.returned (qf wt i c t1 t2 q)∧w.grownBy w' none:=by
 unfold qf
 cases hg:gd i.env c t1 t2 q with
 |none=>
  refine Dk _ _ _ _ _ _ _ _ _ _ _ _ _ _ _ _ _ _ _ _ _ _ _ _ _ _ _ _ _ _ _ _ _ _ _ w (af (fun W=>?_))
  refine (oh i.env k c g t1 t2 q W h1 h2).mono ?_
  rintro r w' ⟨⟨e',rfl,_⟩,hw⟩
  rw[hg]
  exact⟨⟨_,_,_,_,_,_,_,_,rfl⟩,hw⟩
 |some e=>
  have HGO:Hid (∀ W,Calls Tryz.prog 138 #[.agg ((aG wt i).drop 16).toArray,.agg (Ce k c g t1 t2).toArray,.agg (nV q).toArray] W fun r w'=>r=.returned (.tuple #[.agg (oo e).toArray,.bool true])∧W.grownBy w' none):=af (fun W=>by
   refine (oh i.env k c g t1 t2 q W h1 h2).mono ?_
   rintro r w' ⟨⟨e',rfl,he⟩,hw⟩
   rw[hg,he e hg]
   exact⟨rfl,hw⟩)
  simp only[]
  by_cases hq:ce i.facts<q.2.2
  ·unfold FV
   rw[As wt i q e hl hq]
   exact Bj (aG wt i) (Ce k c g t1 t2) (nV q) (oo e) (ce i.facts) q.2.2 i.facts.length hl rfl rfl rfl rfl rfl rfl rfl (cm _ _) (mX _) (uJ _) hq w HGO
  ·unfold FV
   rw[AM wt i q e hl (by omega)]
   exact zI (aG wt i) (Ce k c g t1 t2) (nV q) (oo e) (ce i.facts) q.2.2 i.facts.length hl rfl rfl rfl rfl rfl rfl rfl (cm _ _) (mX _) (uJ _) (by omega) w HGO
theorem rn {P:Program}(w:World)(t:TypeId)(Z:Array Value)(L:List Value)(hi:(P.info? t).map (·.size)=some L.length)(hZ:Z.size=L.length)(h1:L.toArray.all (·.oneCell')=true):
  (storeVar t ⟨w.heap.size,0,none⟩ (.agg L.toArray)).run P (w.alloc (.cells Z t))=.ok () (w.alloc (.cells L.toArray t)):=by
 have:=run_storeCells_new (P:=P) w t Z L.toArray (by simpa using hi) (by simpa using hZ) h1
 cases hq:P.info? t with
 |none=>simp[hq] at hi
 |some i=>
  have hs:L.length=i.size:=by simp[hq] at hi;omega
  simp[storeVar,sizeOf,typeInfo,hq,Value.cells,hs] at this ⊢
  exact this
theorem az {P:Program}{ops:Array Oper}{rest:List Oper}{op:Oper}{a:Act}{w:World}{Q:Exit→Act→World→Prop}(hgd:op.guard=none)(ty:TypeId)(x y:Operand)(ho:op.op=.store ty x y)
  (Z:Array Value) (L:List Value) (hx:a.eval x=.pointer (some ⟨w.heap.size,0,none⟩)) (hy:a.eval y=.agg L.toArray)
  (hZ:Z.size=L.length) (hi:(P.info? ty).map (·.size)=some L.length) (h1:L.toArray.all (·.oneCell')=true)
  (h:wpList P ops Q rest (a.put op.dst undef) (w.alloc (.cells L.toArray ty))):wpList P ops Q (op::rest) a (w.alloc (.cells Z ty)):=
 wpList_plain hgd fun _ hK=>by
  unfold Oper.wp execOp
  simp only[ho,hx,hy,Instr.storeAt,Instr.sureAddr,Sem.run_bind,Sem.run_pure,Result.andThen_ok,rn w ty Z L hi hZ h1]
  exact hK _ _ h
theorem yR:∀ (L:List Value)(k:Nat)(Z:Array Value)(j:Nat) ,((L.zipIdx k).foldl (fun (cs:Array Value) (p:Value×Nat)=>cs.setIfInBounds (0+p.2) p.1) Z)[j]?=if k≤j∧j<k+L.length∧j<Z.size then L[j - k]? else Z[j]?
 |[],k,Z,j=>by
  rw[if_neg (by simp;omega)]
  rfl
 |v::L,k,Z,j=>by
  rw[List.zipIdx_cons,List.foldl_cons,yR L (k+1)]
  simp only[Array.size_setIfInBounds,List.length_cons,Nat.zero_add]
  by_cases e:j=k
  ·subst e
   rw[if_neg (by omega)]
   by_cases hz:j<Z.size
   ·rw[if_pos (by omega),Array.getElem?_setIfInBounds_self_of_lt hz]
    simp
   ·rw[if_neg (by omega),Array.getElem?_eq_none (by simp;omega),Array.getElem?_eq_none (by omega)]
  ·by_cases h1:k+1≤j∧j<k+1+L.length∧j<Z.size
   ·rw[if_pos h1,if_pos (by omega),show j - k=(j - (k+1))+1 by omega]
    simp
   ·rw[if_neg h1,if_neg (by omega),Array.getElem?_setIfInBounds_ne (fun h=>e h.symm)]
theorem yj (L:List Value)(Z:Array Value)(h:Z.size=L.length):(L.toArray.zipIdx.foldl (fun (cs:Array Value) (p:Value×Nat)=>cs.setIfInBounds (0+p.2) p.1) Z)=L.toArray:=by
 rw[←Array.foldl_toList,Array.toList_zipIdx]
 have hn:=yR L 0 Z
 refine Array.ext' ?_
 refine List.ext_getElem? fun j=>?_
 have:=hn j
 rw[←Array.getElem?_toList] at this
 refine this.trans ?_
 by_cases hj:j<L.length
 ·rw[if_pos (by omega)];simp
 ·rw[if_neg (by omega),Array.getElem?_eq_none (by omega)]
  simp
  omega
theorem rf {P:Program}(w:World)(t e:TypeId)(L:List Value)(Z:Array Value)(hu:P.underlying t=some (.slice e))(hi:(P.info? e).map (fun i=>(i.zero,i.size))=some (some (.agg Z),L.length))(h0:0<L.length)(h2:L.length≤1000):
  (Instr.buildSlice t 1 #[(0,.agg L.toArray)]).run P w=.ok (.slice (some ⟨w.heap.size,0,none⟩) 1 1) (w.alloc (.cells L.toArray e)):=by
 cases hq:P.info? e with
 |none=>simp[hq] at hi
 |some i=>
  simp[hq] at hi
  obtain⟨hz,hs⟩:=hi
  have hsz:((Array.range (1*L.length)).map (Z[·% Z.size]!)).size=L.length:=by simp
  have hf:=yj L _ hsz
  have e1:Instr.fill (fun i=>some (i*L.length,L.length)) ((Array.range (1*L.length)).map (Z[·% Z.size]!)) [(0,.agg L.toArray)]=some L.toArray:=by
   unfold Instr.fill
   simp only[]
   split
   ·rename_i h
    exfalso
    simp[Value.cells] at h
   ·unfold Instr.fill
    rw[Nat.zero_mul]
    exact congrArg some hf
  have g1:¬16777216<L.length:=by omega
  have g2:¬L.length=0:=by omega
  simp only[Nat.one_mul] at e1
  simp[Instr.buildSlice,underlying,sizeOf,typeInfo,zeroValue,hu,hq,hz,hs,g1,Value.cells,newRow]
  rw[if_neg (by intro h;simp[h] at h0),e1]
  simp
theorem bp {P:Program}{ops:Array Oper}{rest:List Oper}{op:Oper}{a:Act}{w:World}{Q:Exit→Act→World→Prop}(hgd:op.guard=none)(t e:TypeId)(y:Operand)(ho:op.op=.buildSlice t 1 #[(0,y)])
  (Z:Array Value) (L:List Value) (hy:a.eval y=.agg L.toArray) (hu:P.underlying t=some (.slice e)) (hi:(P.info? e).map (fun i=>(i.zero,i.size))=some (some (.agg Z),L.length)) (h0:0<L.length) (h2:L.length≤1000)
  (h:wpList P ops Q rest (a.put op.dst (.slice (some ⟨w.heap.size,0,none⟩) 1 1)) (w.alloc (.cells L.toArray e))):wpList P ops Q (op::rest) a w:=
 wpList_plain hgd fun _ hK=>by
  unfold Oper.wp execOp
  have:=rf (P:=P) w t e L Z hu hi h0 h2
  simp only[ho,List.map_toArray,List.map_cons,List.map_nil,hy,Sem.run_bind,Sem.run_pure,this,Result.andThen_ok]
  exact hK _ _ h
theorem tg {α:Type}{f:α→List Value}{m:Nat}(hf:∀ a,(f a).length=m):∀ (l:List α) (k:Nat) (hk:k<l.length) (j:Nat) (v:Value),(f l[k])[j]?=some v→(l.flatMap f)[k*m+j]?=some v
 |a::l,0,_,j,v,h=>by
  have hj:j<(f a).length:=(List.getElem?_eq_some_iff.1 h).1
  rw[List.flatMap_cons,Nat.zero_mul,Nat.zero_add,List.getElem?_append_left hj]
  exact h
 |a::l,k+1,hk,j,v,h=>by
  rw[List.flatMap_cons,List.getElem?_append_right (by rw[hf,Nat.add_mul];omega),hf,show (k+1)*m+j - m=k*m+j by rw[Nat.add_mul];omega]
  exact tg hf l k (by simpa using hk) j v h
theorem eY {α:Type}{f:α→List Value}{m:Nat}(hf:∀ a,(f a).length=m){w:World}{g:Nat}{l:List α}(hc:∀ i v,(l.flatMap f)[i]?=some v→w.cell? ⟨g,i,none⟩=some v){k:Nat}(hk:k<l.length):w.rangeAt g (k*m) (f l[k]):=
 fun j v hv=>hc _ _ (tg hf l k hk j v hv)
theorem qV (q:aw):(nV q).length=4:=rfl
def ja (F:List aw)(cl:Int):List aw:=F.filter fun q=>decide ((q.1:Int) / 10=cl)
theorem BK (F:List aw)(cl:Int)(k:Nat)(hk:k<F.length):ja (F.take (k+1)) cl=ja (F.take k) cl++(if (F[k].1:Int) / 10=cl then [F[k]] else []):=by
 unfold ja
 rw[List.take_succ_eq_append_getElem hk,List.filter_append]
 congr 1
 simp only[List.filter_cons,List.filter_nil]
 by_cases h:(F[k].1:Int) / 10=cl <;> simp[h]
theorem yG (F:List aw)(cl:Int):(ja F cl).length≤F.length:=List.length_filter_le _ _
theorem s9 (F:List aw)(cl:Int)(fa:Option Addr)(fc B:Nat)(w:World)(hFl:F.length≤60)(hrow:w.ownsRow B 114 4 (.slice fa F.length fc) F.length (bE F)):
  Calls Tryz.prog 126 #[.slice fa F.length fc,.int .i64 cl] w fun e w'=>∃ v,e=.returned v∧w'.ownsRow w.heap.size 114 4 v (ja F cl).length (bE (ja F cl))∧w.grownBy w' none:=by
 obtain⟨i0,hi0,hz0,hz1,hz2⟩:=info_parts Tryz.info114
 have HROW:=af hrow
 clear hrow
 go_enter Tryz.func126,Tryz.ntmps126
 go_wp2_with fail
 go_loopw [5,10] (fun t i wr=>∃ k:Nat,k≤F.length∧i=.int .i64 k∧wr.ownsRow w.heap.size 114 4 t (ja (F.take k) cl).length (bE (ja (F.take k) cl))∧w.grownBy wr none) (fun _ i _=>F.length - (intOf i).toNat)
 case atStart=>exact⟨0,by omega,rfl,World.ownsRow_nil _ _ _ _,ag _ _⟩
 case round=>
  obtain⟨k,hk,rfl,hown,hg⟩:=hrel
  have HG:=af hg
  have HOW:=af hown
  by_cases hlt:k<F.length
  ·have how:=aq HROW.out hg (fun g hg=>by cases hg)
   obtain⟨gf,rfl,_,_,hgl,hcell⟩:=aC how (by omega)
   obtain⟨L,hL⟩:∃ L,L=nV F[k]:=⟨_,rfl⟩
   have HRG:Hid (wr.rangeAt gf (k*4) L):=af (by rw[hL];exact eY qV hcell hlt)
   have hLl:L.length=4:=by rw[hL];rfl
   have HIL:Hid ((Tryz.prog.info? 114).map (·.size)=some L.length):=af (by rw[hLl];exact jU)
   have HIZ:Hid ((Tryz.prog.info? 114).map (fun i=>(i.zero,i.size))=some (some (.agg #[.int .i64 0,.int .i64 0,.int .i64 0,.int .i64 0]),L.length)):=af (by rw[hLl];kernel_rfl)
   have HON:Hid (∀ u∈L,u.oneCell'=true):=af (by rw[hL];exact mX _)
   have HONA:Hid (L.toArray.all (·.oneCell')=true):=af (all_oneCell_toArray HON.out)
   have HBN:Hid ((wr.alloc (.cells L.toArray 114)).heap[wr.heap.size]?=some (.cells L.toArray 114 (0,0))):=af (heap_alloc_new wr _)
   obtain⟨cv,hcv⟩:∃ cv:Int,cv=(F[k].1:Int) / 10:=⟨_,rfl⟩
   have k0:(wr.alloc (.cells L.toArray 114)).cell? ⟨wr.heap.size,0,none⟩=some (.int .i64 cv):=by
    rw[cell_of_row _ _ _ _ _ _ HBN.out,hL,hcv]
    rfl
   have HRN:Hid ((wr.alloc (.cells L.toArray 114)).rangeAt wr.heap.size 0 L):=af (aF HBN.out rfl)
   have hjl:=Nat.le_trans (yG (F.take k) cl) (List.length_take_le k F)
   obtain⟨a,m,c,rfl⟩:=an hown
   have em:=ar hown
   subst em
   have hsz:=hg.size
   have hne:gf≠wr.heap.size:=by omega
   have HSUC:=af (BK F cl k hlt)
   rw[←hcv] at HSUC
   have HFIN:Hid (cv=cl→∀ (w3:World) (v':Value),w3.ownsRow w.heap.size 114 4 v' ((ja (F.take k) cl).length+1) (bE (ja (F.take k) cl)++L)→w3.ownsRow w.heap.size 114 4 v' (ja (F.take (k+1)) cl).length (bE (ja (F.take (k+1)) cl))):=af (fun e w3 v' h=>by
    rw[HSUC.out,if_pos e,nD,List.length_append]
    rw[hL] at h
    exact h)
   have HSKIP:Hid (cv≠cl→ja (F.take (k+1)) cl=ja (F.take k) cl):=af (fun e=>by rw[HSUC.out,if_neg e];simp)
   have HWG:Hid (∀ o,wr.grownBy (wr.alloc o) none):=af (fun o=>ab (ag _ _) o)
   have HOWG:Hid (∀ W,wr.grownBy W none→W.ownsRow w.heap.size 114 4 (.slice a (ja (F.take k) cl).length c) (ja (F.take k) cl).length (bE (ja (F.take k) cl))):=af (fun W hW=>aq HOW.out hW (fun g hg=>by cases hg))
   have how1:=HOWG.out _ (ab (HWG.out (.cells L.toArray 114)) (.cells L.toArray 114))
   have HLT:=af (fun g hg=>(HOW.out.lt g hg).1)
   obtain⟨nl,hnl⟩:∃ nl,nl=(ja (F.take k) cl).length:=⟨_,rfl⟩
   obtain⟨xs,hxs⟩:∃ xs,xs=bE (ja (F.take k) cl):=⟨_,rfl⟩
   rw[←hnl] at HFIN HOWG HOW HLT hjl how1 ⊢
   rw[←hxs] at HFIN HOWG HOW how1
   have HNL:=af hnl
   have HXS:=af hxs
   clear hnl hxs HSUC hL how hcell hown hg hcv
   by_cases he:cv=cl
   ·have q:(cv==cl)=true:=by simpa using he
    have HFI:=af (HFIN.out he)
    clear he HFIN HSKIP
    go_wp2_with (first
     |(refine wpList_load_mid rfl 114 (.tmp 12) rfl gf (k*4) rfl L _ HRG.out Tryz.underlying114 rfl HIL.out ?_)
     |(refine az rfl 114 (.tmp 7) (.tmp 13) rfl _ L rfl rfl hLl.symm HIL.out HONA.out ?_)
     |(refine wpList_load_mid rfl 114 (.tmp 7) rfl wr.heap.size 0 rfl L _ HRN.out Tryz.underlying114 rfl HIL.out ?_)
     |(refine bp rfl 111 114 (.tmp 19) rfl _ L rfl Tryz.underlying111 HIZ.out (by omega) (by omega) ?_)
     |(at_builtin;refine wpList_append_own _ rfl (.tmp 18) (.tmp 20) 111 rfl (w.heap.size) 114 i0 (.agg #[.int .i64 0,.int .i64 0,.int .i64 0,.int .i64 0]) 4 32 Tryz.underlying111 hi0 hz0 hz1 hz2 rfl (by decide) _ _ _ rfl how1 _ 1 1 L rfl (by omega) (fun j u hj=>bj hj) HON.out (by unfold maxLen;omega) (by omega) (by simp;omega) ?_))
    intro v' w3 hown3 hg3 _
    have HO3:=af hown3
    have HG3:=af hg3
    clear hown3 hg3
    go_wp2_with fail
    go_roundw
    case rel=>exact⟨k+1,by omega,by go_num,HFI.out _ _ HO3.out,aL (ae HG.out (ab (HWG.out _) _)) HG3.out HLT.out⟩
    case measure=>simp[intOf];omega
   ·have q:(cv==cl)=false:=by simpa using he
    have HSK:=af (HSKIP.out he)
    clear he HFIN HSKIP
    go_wp2_with (first
     |(refine wpList_load_mid rfl 114 (.tmp 12) rfl gf (k*4) rfl L _ HRG.out Tryz.underlying114 rfl HIL.out ?_)
     |(refine az rfl 114 (.tmp 7) (.tmp 13) rfl _ L rfl rfl hLl.symm HIL.out HONA.out ?_))
    go_roundw
    case rel=>exact⟨k+1,by omega,by go_num,by rw[HSK.out,←HNL.out,←HXS.out];exact HOWG.out _ (HWG.out _),ae HG.out (HWG.out _)⟩
    case measure=>simp[intOf];omega
  ·have hkl:k=F.length:=by omega
   subst hkl
   rw[List.take_length] at HOW
   clear hg hown
   go_wp2_with fail
   go_ret
   exact⟨_,rfl,HOW.out,HG.out⟩
theorem qQ (b0 b1 b2 b3:Bool)(d0 d1 d2 d3 k v r:Int)(w:World)(h:(k=1∧r=v)∨(k=2∧v=0∧r=d0)∨(k=2∧v=1∧r=d1)∨(k=2∧v=2∧r=d2)∨(k=2∧v=3∧r=d3)):
  Calls Tryz.prog 139 #[.agg #[.bool b0,.bool b1,.bool b2,.bool b3,.int .i64 d0,.int .i64 d1,.int .i64 d2,.int .i64 d3],.agg #[.int .i64 k,.int .i64 v]] w fun e w'=>e=.returned (.int .i64 r)∧w'=(w.alloc (.cells #[.bool b0,.bool b1,.bool b2,.bool b3,.int .i64 d0,.int .i64 d1,.int .i64 d2,.int .i64 d3] 173)).alloc (.cells #[.int .i64 k,.int .i64 v] 203):=by
 rcases h with ⟨rfl,rfl⟩|⟨rfl,rfl,rfl⟩|⟨rfl,rfl,rfl⟩|⟨rfl,rfl,rfl⟩|⟨rfl,rfl,rfl⟩
 all_goals
  go_enter Tryz.func139,Tryz.ntmps139
  go_wp2_with fail
  go_ret
  exact⟨rfl,rfl⟩
theorem BL {t:Int}(h:bg t=true):bM t=true∨(bM t=false∧(t=119∨t=120∨t=121∨t=122)):=by
 cases hd:bM t with
 |true=>exact .inl rfl
 |false=>
  have hl:eA t=true:=by simpa [bg,hd] using h
  simp only[eA,decide_eq_true_eq] at hl
  right
  exact⟨rfl,by omega⟩
theorem py (e:fu)(t:Int)(h:bg t=true):(dw t=1∧fH 0 e t=dD t)∨(dw t=2∧dD t=0∧fH 0 e t=dI e 0)∨(dw t=2∧dD t=1∧fH 0 e t=dI e 1)∨(dw t=2∧dD t=2∧fH 0 e t=dI e 2)∨(dw t=2∧dD t=3∧fH 0 e t=dI e 3):=by
 rcases BL h with hd|⟨_,rfl|rfl|rfl|rfl⟩
 ·left
  exact⟨by simp[dw,hd],by simp[dD,fH,hd]⟩
 ·exact .inr (.inl ⟨rfl,rfl,rfl⟩)
 ·exact .inr (.inr (.inl ⟨rfl,rfl,rfl⟩))
 ·exact .inr (.inr (.inr (.inl ⟨rfl,rfl,rfl⟩)))
 ·exact .inr (.inr (.inr (.inr ⟨rfl,rfl,rfl⟩)))
theorem vH (b0 b1 b2 b3:Bool)(d0 d1 d2 d3 k c g p1 p2 q1 q2 x y:Int)(w:World)(hg:g=60∨g=61∨g=35)
  (H1:Hid (∀ W,Calls Tryz.prog 139 #[.agg #[.bool b0,.bool b1,.bool b2,.bool b3,.int .i64 d0,.int .i64 d1,.int .i64 d2,.int .i64 d3],.agg #[.int .i64 p1,.int .i64 p2]] W fun e w'=>e=.returned (.int .i64 x)∧w'=(W.alloc (.cells #[.bool b0,.bool b1,.bool b2,.bool b3,.int .i64 d0,.int .i64 d1,.int .i64 d2,.int .i64 d3] 173)).alloc (.cells #[.int .i64 p1,.int .i64 p2] 203)))
  (H2:Hid (∀ W,Calls Tryz.prog 139 #[.agg #[.bool b0,.bool b1,.bool b2,.bool b3,.int .i64 d0,.int .i64 d1,.int .i64 d2,.int .i64 d3],.agg #[.int .i64 q1,.int .i64 q2]] W fun e w'=>e=.returned (.int .i64 y)∧w'=(W.alloc (.cells #[.bool b0,.bool b1,.bool b2,.bool b3,.int .i64 d0,.int .i64 d1,.int .i64 d2,.int .i64 d3] 173)).alloc (.cells #[.int .i64 q1,.int .i64 q2] 203))) :
  Calls Tryz.prog 129 #[.agg #[.bool b0,.bool b1,.bool b2,.bool b3,.int .i64 d0,.int .i64 d1,.int .i64 d2,.int .i64 d3],.agg #[.int .i64 k,.int .i64 c,.int .u8 g,.int .i64 p1,.int .i64 p2,.int .i64 q1,.int .i64 q2]] w fun e w'=>e=.returned (.bool (iB g x y))∧w.grownBy w' none:=by
 obtain⟨r,hr⟩:∃ r,r=iB g x y:=⟨_,rfl⟩
 rw[←hr]
 have HR:=af hr
 clear hr
 rcases hg with rfl|rfl|rfl
 ·have HR2:Hid (r=decide (x<y)):=af (by rw[HR.out];simp[iB])
  go_enter Tryz.func129,Tryz.ntmps129
  go_wp2_with fail
  go_at_call 139
  refine (H1.out _).mono ?_
  rintro e w1 ⟨rfl,rfl⟩
  go_wp2_with fail
  go_at_call 139
  refine (H2.out _).mono ?_
  rintro e w2 ⟨rfl,rfl⟩
  go_wp2_with fail
  go_ret
  exact⟨by rw[HR2.out];rfl,ab (ab (ab (ab (ab (ab (ag _ _) _) _) _) _) _) _⟩
 ·have HR2:Hid (r=(x==y)):=af (by rw[HR.out];simp[iB];by_cases h:x=y <;> simp[h])
  go_enter Tryz.func129,Tryz.ntmps129
  go_wp2_with fail
  go_at_call 139
  refine (H1.out _).mono ?_
  rintro e w1 ⟨rfl,rfl⟩
  go_wp2_with fail
  go_at_call 139
  refine (H2.out _).mono ?_
  rintro e w2 ⟨rfl,rfl⟩
  go_wp2_with fail
  go_ret
  exact⟨by rw[HR2.out];rfl,ab (ab (ab (ab (ab (ab (ag _ _) _) _) _) _) _) _⟩
 ·have HR2:Hid (r=(x != y)):=af (by rw[HR.out];simp[iB];by_cases h:x=y <;> simp[h])
  go_enter Tryz.func129,Tryz.ntmps129
  go_wp2_with fail
  go_at_call 139
  refine (H1.out _).mono ?_
  rintro e w1 ⟨rfl,rfl⟩
  go_wp2_with fail
  go_at_call 139
  refine (H2.out _).mono ?_
  rintro e w2 ⟨rfl,rfl⟩
  go_wp2_with fail
  go_ret
  exact⟨by rw[HR2.out];rfl,ab (ab (ab (ab (ab (ab (ag _ _) _) _) _) _) _) _⟩
def yv (k c g t1 t2:Int):Value:=.agg #[.int .i64 k,.int .i64 c,.int .u8 g,.int .i64 (dw t1),.int .i64 (dD t1),.int .i64 (dw t2),.int .i64 (dD t2)]
theorem xN (e:fu)(k c g t1 t2:Int)(w:World)(hg:gI g=true)(h1:bg t1=true)(h2:bg t2=true):
  Calls Tryz.prog 129 #[jr e,yv k c g t1 t2] w fun r w'=>r=.returned (.bool (iB g (fH 0 e t1) (fH 0 e t2)))∧w.grownBy w' none:=
 vH _ _ _ _ _ _ _ _ k c g _ _ _ _ _ _ w (by simpa [gI,or_assoc] using hg) (af (fun W=>qQ _ _ _ _ _ _ _ _ _ _ _ W (py e t1 h1))) (af (fun W=>qQ _ _ _ _ _ _ _ _ _ _ _ W (py e t2 h2)))
def dC (wt:Int)(l:List In):List Value:=l.flatMap (aG wt)
def Gh (k c g t1 t2:Int):List Value:=[.int .i64 k,.int .i64 c,.int .u8 g,.int .i64 (dw t1),.int .i64 (dD t1),.int .i64 (dw t2),.int .i64 (dD t2)]
theorem sy (wt:Int)(l:List In)(i:In):dC wt (l++[i])=dC wt l++aG wt i:=by simp[dC]
theorem kh {α:Type}(p:α→Bool)(l:List α)(k:Nat)(hk:k<l.length):(l.take (k+1)).filter p=(l.take k).filter p++(if p l[k] then [l[k]] else []):=by
 rw[List.take_succ_eq_append_getElem hk,List.filter_append]
 congr 1
 simp only[List.filter_cons,List.filter_nil]
theorem Tryz.infoI:(Tryz.prog.info? 175).map (fun i=>(i.zero,i.size,i.bytes))=some (some (.agg #[.int .i64 0,.int .i64 0,.int .i64 0,.int .i64 0,.int .i64 0,.int .i64 0,.int .i64 0,.int .i64 0,.int .i64 0,.int .i64 0,.int .i64 0,.int .i64 0,.int .i64 0,.int .i64 0,.int .i64 0,.int .i64 0,.bool false,.bool false,.bool false,.bool false,.int .i64 0,.int .i64 0,.int .i64 0,.int .i64 0]),24,168):=by kernel_rfl
theorem tT (wt:Int)(l:List In)(la:Option Addr)(lc B:Nat)(kd c g t1 t2:Int)(F:List aw)(fa:Option Addr)(fc B2:Nat)(w:World)(hll:l.length≤1000000)
  (hrow:w.ownsRow B 175 24 (.slice la l.length lc) l.length (dC wt l)) (h1:c8 t1=true) (h2:c8 t2=true) (hFl:F.length≤60) (hfr:w.ownsRow B2 114 4 (.slice fa F.length fc) F.length (bE F)) :
  Calls Tryz.prog 105 #[.slice la l.length lc,jo kd c g t1 t2,.slice fa F.length fc] w fun e w'=>∃ v,e=.returned v∧w'.ownsRow w.heap.size 175 24 v (l.filter (fun i:In=>fT F i.env c t1 t2)).length (dC wt (l.filter (fun i:In=>fT F i.env c t1 t2)))∧w.grownBy w' none:=by
 obtain⟨i0,hi0,hz0,hz1,hz2⟩:=info_parts Tryz.infoI
 obtain⟨C,hC⟩:∃ C,C=Ce kd c g t1 t2:=⟨_,rfl⟩
 have hCl:C.length=7:=by rw[hC];rfl
 have hCV:jo kd c g t1 t2=.agg C.toArray:=by rw[hC];rfl
 rw[hCV]
 have HCALL:Hid (∀ (k:Nat) (hk:k<l.length) (W:World),w.grownBy W none→Calls Tryz.prog 128 #[.agg ((aG wt l[k]).drop 16).toArray,.agg C.toArray,.slice fa F.length fc] W fun r w'=>r=.returned (.bool (!(fT F l[k].env c t1 t2)))∧W.grownBy w' none):=af (fun k hk W hW=>by
  rw[hC]
  exact DU l[k].env kd c g t1 t2 F fa fc B2 W h1 h2 hFl (aq hfr hW (fun g hg=>by cases hg)))
 obtain⟨p,hp⟩:∃ p:In→Bool,p=(fun i:In=>fT F i.env c t1 t2):=⟨_,rfl⟩
 rw[←hp]
 have HP:Hid (∀ (k:Nat) (hk:k<l.length),fT F l[k].env c t1 t2=p l[k]):=af (fun k hk=>by rw[hp])
 have HROW:=af hrow
 have HBC:Hid ((w.alloc (.cells C.toArray 205)).heap[w.heap.size]?=some (.cells C.toArray 205 (0,0))):=af (heap_alloc_new w _)
 have HIC:Hid ((Tryz.prog.info? 205).map (·.size)=some C.length):=af (by rw[hCl];exact iI)
 clear hrow hC hCV hp hfr h1 h2
 go_enter Tryz.func105,Tryz.ntmps105
 go_wp2_with fail
 go_loopw [7,12] (fun t i wr=>∃ k:Nat,k≤l.length∧i=.int .i64 k∧wr.ownsRow w.heap.size 175 24 t ((l.take k).filter p).length (dC wt ((l.take k).filter p))∧w.grownBy wr none∧wr.heap[w.heap.size]?=some (.cells C.toArray 205 (0,0))) (fun _ i _=>l.length - (intOf i).toNat)
 case atStart=>exact⟨0,by omega,rfl,World.ownsRow_nil _ _ _ _,ab (ag _ _) _,HBC.out⟩
 case round=>
  obtain⟨k,hk,rfl,hown,hg,hbc⟩:=hrel
  have HG:=af hg
  have HOW:=af hown
  have HB:=af hbc
  by_cases hlt:k<l.length
  ·have how:=aq HROW.out hg (fun g hg=>by cases hg)
   obtain⟨gf,rfl,_,_,hgl,hcell⟩:=aC how (by omega)
   obtain⟨L,hL⟩:∃ L,L=aG wt l[k]:=⟨_,rfl⟩
   have HRG:Hid (wr.rangeAt gf (k*24) L):=af (by rw[hL];exact eY (eC wt) hcell hlt)
   have hLl:L.length=24:=by rw[hL];rfl
   have HIL:Hid ((Tryz.prog.info? 175).map (·.size)=some L.length):=af (by rw[hLl];exact bC)
   have HIZ:Hid ((Tryz.prog.info? 175).map (fun i=>(i.zero,i.size))=some (some (.agg #[.int .i64 0,.int .i64 0,.int .i64 0,.int .i64 0,.int .i64 0,.int .i64 0,.int .i64 0,.int .i64 0,.int .i64 0,.int .i64 0,.int .i64 0,.int .i64 0,.int .i64 0,.int .i64 0,.int .i64 0,.int .i64 0,.bool false,.bool false,.bool false,.bool false,.int .i64 0,.int .i64 0,.int .i64 0,.int .i64 0]),L.length)):=af (by rw[hLl];kernel_rfl)
   have HON:Hid (∀ u∈L,u.oneCell'=true):=af (by rw[hL];exact cm _ _)
   have HONA:Hid (L.toArray.all (·.oneCell')=true):=af (all_oneCell_toArray HON.out)
   have HBN:Hid ((wr.alloc (.cells L.toArray 175)).heap[wr.heap.size]?=some (.cells L.toArray 175 (0,0))):=af (heap_alloc_new wr _)
   have HBC1:Hid ((wr.alloc (.cells L.toArray 175)).heap[w.heap.size]?=some (.cells C.toArray 205 (0,0))):=af ((Below.heap_alloc _ _ _ (lt_of_block hbc)).trans hbc)
   obtain⟨D,hD⟩:∃ D,D=L.drop 16:=⟨_,rfl⟩
   have hDl:D.length=8:=by rw[hD];simp[hLl]
   have HID:Hid ((Tryz.prog.info? 173).map (·.size)=some D.length):=af (by rw[hDl];exact gA)
   have HRD:Hid ((wr.alloc (.cells L.toArray 175)).rangeAt wr.heap.size 16 D):=af (bX HBN.out (fun j v hv=>by rw[hD,List.getElem?_drop] at hv;exact hv))
   have HRC:Hid ((wr.alloc (.cells L.toArray 175)).rangeAt w.heap.size 0 C):=af (aF HBC1.out rfl)
   have HCA:=af (HCALL.out k hlt)
   rw[HP.out k hlt,←hL,←hD] at HCA
   have hjl:=Nat.le_trans (List.length_filter_le p (l.take k)) (List.length_take_le k l)
   obtain⟨a,m,cc,rfl⟩:=an hown
   have em:=ar hown
   subst em
   have hsz:=hg.size
   have hwl:w.heap.size<wr.heap.size:=lt_of_block hbc
   have hne:gf≠wr.heap.size:=by omega
   have HSUC:=af (kh p l k hlt)
   obtain⟨ok,hok⟩:∃ ok,ok=p l[k]:=⟨_,rfl⟩
   rw[←hok] at HCA HSUC
   have HFIN:Hid (ok=true→∀ (w3:World) (v':Value),w3.ownsRow w.heap.size 175 24 v' (((l.take k).filter p).length+1) (dC wt ((l.take k).filter p)++L)→w3.ownsRow w.heap.size 175 24 v' ((l.take (k+1)).filter p).length (dC wt ((l.take (k+1)).filter p))):=af (fun e w3 v' h=>by
    rw[HSUC.out,if_pos e,sy,List.length_append]
    rw[hL] at h
    exact h)
   have HSKIP:Hid (ok=false→(l.take (k+1)).filter p=(l.take k).filter p):=af (fun e=>by rw[HSUC.out,e];simp)
   have HWG:Hid (∀ o,wr.grownBy (wr.alloc o) none):=af (fun o=>ab (ag _ _) o)
   have HOWG:Hid (∀ W,wr.grownBy W none→W.ownsRow w.heap.size 175 24 (.slice a ((l.take k).filter p).length cc) ((l.take k).filter p).length (dC wt ((l.take k).filter p))):=af (fun W hW=>aq HOW.out hW (fun g hg=>by cases hg))
   have HLT:=af (fun g hg=>(HOW.out.lt g hg).1)
   have HNB:Hid ((Value.slice a ((l.take k).filter p).length cc).ownBlock≠some w.heap.size):=af (fun e=>aS HOW.out HB.out (by decide) e)
   obtain⟨nl,hnl⟩:∃ nl,nl=((l.take k).filter p).length:=⟨_,rfl⟩
   obtain⟨xs,hxs⟩:∃ xs,xs=dC wt ((l.take k).filter p):=⟨_,rfl⟩
   rw[←hnl] at HFIN HOWG HOW HLT HNB hjl ⊢
   rw[←hxs] at HFIN HOWG HOW
   have HNL:=af hnl
   have HXS:=af hxs
   clear hnl hxs HSUC hL hD how hcell hown hg hbc hok HCALL
   go_wp2_with (first
    |(refine wpList_load_mid rfl 175 (.tmp 14) rfl gf (k*24) rfl L _ HRG.out Tryz.underlying175 rfl HIL.out ?_)
    |(refine az rfl 175 (.tmp 9) (.tmp 15) rfl _ L rfl rfl hLl.symm HIL.out HONA.out ?_)
    |(refine wpList_load_mid rfl 173 (.tmp 16) rfl wr.heap.size 16 rfl D _ HRD.out Tryz.underlying173 rfl HID.out ?_)
    |(refine wpList_load_mid rfl 205 (.tmp 4) rfl w.heap.size 0 rfl C _ HRC.out Tryz.underlying205 rfl HIC.out ?_))
   go_at_call 128
   refine (HCA.out _ (ae HG.out (HWG.out _))).mono ?_
   rintro e w1 ⟨rfl,hg1⟩
   have hB1:=(hg1.block _ (lt_of_block HBN.out) (by simp)).trans HBN.out
   have HRL:Hid (w1.rangeAt wr.heap.size 0 L):=af (aF hB1 rfl)
   have HG1:=af (ae (HWG.out _) hg1)
   have HBC2:Hid (w1.heap[w.heap.size]?=some (.cells C.toArray 205 (0,0))):=af ((hg1.block _ (lt_of_block HBC1.out) (by simp)).trans HBC1.out)
   have how1:=HOWG.out _ (ab HG1.out (.cells L.toArray 175))
   have hsw1:w.heap.size≤w1.heap.size:=by have:=HG1.out.size;omega
   clear hg1 hB1 HBN HBC1 HRG HRD HRC HCA
   cases ok with
   |true=>
    have HFI:=af (HFIN.out rfl)
    clear HFIN HSKIP
    go_wp2_with (first
     |(refine wpList_load_mid rfl 175 (.tmp 9) rfl wr.heap.size 0 rfl L _ HRL.out Tryz.underlying175 rfl HIL.out ?_)
     |(refine bp rfl 124 175 (.tmp 23) rfl _ L rfl Tryz.underlying124 HIZ.out (by omega) (by omega) ?_)
     |(at_builtin;refine wpList_append_own _ rfl (.tmp 22) (.tmp 24) 124 rfl (w.heap.size) 175 i0 (.agg #[.int .i64 0,.int .i64 0,.int .i64 0,.int .i64 0,.int .i64 0,.int .i64 0,.int .i64 0,.int .i64 0,.int .i64 0,.int .i64 0,.int .i64 0,.int .i64 0,.int .i64 0,.int .i64 0,.int .i64 0,.int .i64 0,.bool false,.bool false,.bool false,.bool false,.int .i64 0,.int .i64 0,.int .i64 0,.int .i64 0]) 24 168 Tryz.underlying124 hi0 hz0 hz1 hz2 rfl (by decide) _ _ _ rfl how1 _ 1 1 L rfl (by omega) (fun j u hj=>bj hj) HON.out (by unfold maxLen;omega) (by omega) (by simp;omega) ?_))
    intro v' w3 hown3 hg3 _
    have HO3:=af hown3
    have HG3:=af hg3
    have HB3:Hid (w3.heap[w.heap.size]?=some (.cells C.toArray 205 (0,0))):=af (by
     have h4:=(Below.heap_alloc w1 (.cells L.toArray 175) _ (lt_of_block HBC2.out)).trans HBC2.out
     exact (hg3.block _ (lt_of_block h4) (fun e=>HNB.out e.symm)).trans h4)
    clear hown3 hg3
    go_wp2_with fail
    go_roundw
    case rel=>exact⟨k+1,by omega,by go_num,HFI.out _ _ HO3.out,aL (ae HG.out (ab HG1.out _)) HG3.out HLT.out,HB3.out⟩
    case measure=>simp[intOf];omega
   |false=>
    have HSK:=af (HSKIP.out rfl)
    clear HFIN HSKIP how1
    go_wp2_with fail
    go_roundw
    case rel=>exact⟨k+1,by omega,by go_num,by rw[HSK.out,←HNL.out,←HXS.out];exact HOWG.out _ HG1.out,ae HG.out HG1.out,HBC2.out⟩
    case measure=>simp[intOf];omega
  ·have hkl:k=l.length:=by omega
   subst hkl
   rw[List.take_length] at HOW
   clear hg hown hbc
   go_wp2_with fail
   go_ret
   exact⟨_,rfl,HOW.out,HG.out⟩
theorem tC (wt:Int)(l:List In)(la:Option Addr)(lc B:Nat)(kd c g t1 t2:Int)(w:World)(hll:l.length≤1000000)
  (hrow:w.ownsRow B 175 24 (.slice la l.length lc) l.length (dC wt l)) (hg:gI g=true) (h1:bg t1=true) (h2:bg t2=true) :
  Calls Tryz.prog 106 #[.slice la l.length lc,yv kd c g t1 t2] w fun e w'=>∃ v,e=.returned v∧w'.ownsRow w.heap.size 175 24 v (l.filter (fun i:In=>iB g (fH 0 i.env t1) (fH 0 i.env t2))).length (dC wt (l.filter (fun i:In=>iB g (fH 0 i.env t1) (fH 0 i.env t2))))∧w.grownBy w' none:=by
 obtain⟨i0,hi0,hz0,hz1,hz2⟩:=info_parts Tryz.infoI
 obtain⟨C,hC⟩:∃ C,C=Gh kd c g t1 t2:=⟨_,rfl⟩
 have hCl:C.length=7:=by rw[hC];rfl
 have hCV:yv kd c g t1 t2=.agg C.toArray:=by rw[hC];rfl
 rw[hCV]
 have HCALL:Hid (∀ (k:Nat) (hk:k<l.length) (W:World),w.grownBy W none→Calls Tryz.prog 129 #[.agg ((aG wt l[k]).drop 16).toArray,.agg C.toArray] W fun r w'=>r=.returned (.bool (iB g (fH 0 l[k].env t1) (fH 0 l[k].env t2)))∧W.grownBy w' none):=af (fun k hk W hW=>by
  rw[hC]
  exact xN l[k].env kd c g t1 t2 W hg h1 h2)
 obtain⟨p,hp⟩:∃ p:In→Bool,p=(fun i:In=>iB g (fH 0 i.env t1) (fH 0 i.env t2)):=⟨_,rfl⟩
 rw[←hp]
 have HP:Hid (∀ (k:Nat) (hk:k<l.length),iB g (fH 0 l[k].env t1) (fH 0 l[k].env t2)=p l[k]):=af (fun k hk=>by rw[hp])
 have HROW:=af hrow
 have HBC:Hid ((w.alloc (.cells C.toArray 205)).heap[w.heap.size]?=some (.cells C.toArray 205 (0,0))):=af (heap_alloc_new w _)
 have HIC:Hid ((Tryz.prog.info? 205).map (·.size)=some C.length):=af (by rw[hCl];exact iI)
 clear hrow hC hCV hp hg h1 h2
 go_enter Tryz.func106,Tryz.ntmps106
 go_wp2_with fail
 go_loopw [5,10] (fun t i wr=>∃ k:Nat,k≤l.length∧i=.int .i64 k∧wr.ownsRow w.heap.size 175 24 t ((l.take k).filter p).length (dC wt ((l.take k).filter p))∧w.grownBy wr none∧wr.heap[w.heap.size]?=some (.cells C.toArray 205 (0,0))) (fun _ i _=>l.length - (intOf i).toNat)
 case atStart=>exact⟨0,by omega,rfl,World.ownsRow_nil _ _ _ _,ab (ag _ _) _,HBC.out⟩
 case round=>
  obtain⟨k,hk,rfl,hown,hg,hbc⟩:=hrel
  have HG:=af hg
  have HOW:=af hown
  have HB:=af hbc
  by_cases hlt:k<l.length
  ·have how:=aq HROW.out hg (fun g hg=>by cases hg)
   obtain⟨gf,rfl,_,_,hgl,hcell⟩:=aC how (by omega)
   obtain⟨L,hL⟩:∃ L,L=aG wt l[k]:=⟨_,rfl⟩
   have HRG:Hid (wr.rangeAt gf (k*24) L):=af (by rw[hL];exact eY (eC wt) hcell hlt)
   have hLl:L.length=24:=by rw[hL];rfl
   have HIL:Hid ((Tryz.prog.info? 175).map (·.size)=some L.length):=af (by rw[hLl];exact bC)
   have HIZ:Hid ((Tryz.prog.info? 175).map (fun i=>(i.zero,i.size))=some (some (.agg #[.int .i64 0,.int .i64 0,.int .i64 0,.int .i64 0,.int .i64 0,.int .i64 0,.int .i64 0,.int .i64 0,.int .i64 0,.int .i64 0,.int .i64 0,.int .i64 0,.int .i64 0,.int .i64 0,.int .i64 0,.int .i64 0,.bool false,.bool false,.bool false,.bool false,.int .i64 0,.int .i64 0,.int .i64 0,.int .i64 0]),L.length)):=af (by rw[hLl];kernel_rfl)
   have HON:Hid (∀ u∈L,u.oneCell'=true):=af (by rw[hL];exact cm _ _)
   have HONA:Hid (L.toArray.all (·.oneCell')=true):=af (all_oneCell_toArray HON.out)
   have HBN:Hid ((wr.alloc (.cells L.toArray 175)).heap[wr.heap.size]?=some (.cells L.toArray 175 (0,0))):=af (heap_alloc_new wr _)
   have HBC1:Hid ((wr.alloc (.cells L.toArray 175)).heap[w.heap.size]?=some (.cells C.toArray 205 (0,0))):=af ((Below.heap_alloc _ _ _ (lt_of_block hbc)).trans hbc)
   obtain⟨D,hD⟩:∃ D,D=L.drop 16:=⟨_,rfl⟩
   have hDl:D.length=8:=by rw[hD];simp[hLl]
   have HID:Hid ((Tryz.prog.info? 173).map (·.size)=some D.length):=af (by rw[hDl];exact gA)
   have HRD:Hid ((wr.alloc (.cells L.toArray 175)).rangeAt wr.heap.size 16 D):=af (bX HBN.out (fun j v hv=>by rw[hD,List.getElem?_drop] at hv;exact hv))
   have HRC:Hid ((wr.alloc (.cells L.toArray 175)).rangeAt w.heap.size 0 C):=af (aF HBC1.out rfl)
   have HCA:=af (HCALL.out k hlt)
   rw[HP.out k hlt,←hL,←hD] at HCA
   have hjl:=Nat.le_trans (List.length_filter_le p (l.take k)) (List.length_take_le k l)
   obtain⟨a,m,cc,rfl⟩:=an hown
   have em:=ar hown
   subst em
   have hsz:=hg.size
   have hwl:w.heap.size<wr.heap.size:=lt_of_block hbc
   have hne:gf≠wr.heap.size:=by omega
   have HSUC:=af (kh p l k hlt)
   obtain⟨ok,hok⟩:∃ ok,ok=p l[k]:=⟨_,rfl⟩
   rw[←hok] at HCA HSUC
   have HFIN:Hid (ok=true→∀ (w3:World) (v':Value),w3.ownsRow w.heap.size 175 24 v' (((l.take k).filter p).length+1) (dC wt ((l.take k).filter p)++L)→w3.ownsRow w.heap.size 175 24 v' ((l.take (k+1)).filter p).length (dC wt ((l.take (k+1)).filter p))):=af (fun e w3 v' h=>by
    rw[HSUC.out,if_pos e,sy,List.length_append]
    rw[hL] at h
    exact h)
   have HSKIP:Hid (ok=false→(l.take (k+1)).filter p=(l.take k).filter p):=af (fun e=>by rw[HSUC.out,e];simp)
   have HWG:Hid (∀ o,wr.grownBy (wr.alloc o) none):=af (fun o=>ab (ag _ _) o)
   have HOWG:Hid (∀ W,wr.grownBy W none→W.ownsRow w.heap.size 175 24 (.slice a ((l.take k).filter p).length cc) ((l.take k).filter p).length (dC wt ((l.take k).filter p))):=af (fun W hW=>aq HOW.out hW (fun g hg=>by cases hg))
   have HLT:=af (fun g hg=>(HOW.out.lt g hg).1)
   have HNB:Hid ((Value.slice a ((l.take k).filter p).length cc).ownBlock≠some w.heap.size):=af (fun e=>aS HOW.out HB.out (by decide) e)
   obtain⟨nl,hnl⟩:∃ nl,nl=((l.take k).filter p).length:=⟨_,rfl⟩
   obtain⟨xs,hxs⟩:∃ xs,xs=dC wt ((l.take k).filter p):=⟨_,rfl⟩
   rw[←hnl] at HFIN HOWG HOW HLT HNB hjl ⊢
   rw[←hxs] at HFIN HOWG HOW
   have HNL:=af hnl
   have HXS:=af hxs
   clear hnl hxs HSUC hL hD how hcell hown hg hbc hok HCALL
   go_wp2_with (first
    |(refine wpList_load_mid rfl 175 (.tmp 12) rfl gf (k*24) rfl L _ HRG.out Tryz.underlying175 rfl HIL.out ?_)
    |(refine az rfl 175 (.tmp 7) (.tmp 13) rfl _ L rfl rfl hLl.symm HIL.out HONA.out ?_)
    |(refine wpList_load_mid rfl 173 (.tmp 14) rfl wr.heap.size 16 rfl D _ HRD.out Tryz.underlying173 rfl HID.out ?_)
    |(refine wpList_load_mid rfl 205 (.tmp 3) rfl w.heap.size 0 rfl C _ HRC.out Tryz.underlying205 rfl HIC.out ?_))
   go_at_call 129
   refine (HCA.out _ (ae HG.out (HWG.out _))).mono ?_
   rintro e w1 ⟨rfl,hg1⟩
   have hB1:=(hg1.block _ (lt_of_block HBN.out) (by simp)).trans HBN.out
   have HRL:Hid (w1.rangeAt wr.heap.size 0 L):=af (aF hB1 rfl)
   have HG1:=af (ae (HWG.out _) hg1)
   have HBC2:Hid (w1.heap[w.heap.size]?=some (.cells C.toArray 205 (0,0))):=af ((hg1.block _ (lt_of_block HBC1.out) (by simp)).trans HBC1.out)
   have how1:=HOWG.out _ (ab HG1.out (.cells L.toArray 175))
   have hsw1:w.heap.size≤w1.heap.size:=by have:=HG1.out.size;omega
   clear hg1 hB1 HBN HBC1 HRG HRD HRC HCA
   cases ok with
   |true=>
    have HFI:=af (HFIN.out rfl)
    clear HFIN HSKIP
    go_wp2_with (first
     |(refine wpList_load_mid rfl 175 (.tmp 7) rfl wr.heap.size 0 rfl L _ HRL.out Tryz.underlying175 rfl HIL.out ?_)
     |(refine bp rfl 124 175 (.tmp 19) rfl _ L rfl Tryz.underlying124 HIZ.out (by omega) (by omega) ?_)
     |(at_builtin;refine wpList_append_own _ rfl (.tmp 18) (.tmp 20) 124 rfl (w.heap.size) 175 i0 (.agg #[.int .i64 0,.int .i64 0,.int .i64 0,.int .i64 0,.int .i64 0,.int .i64 0,.int .i64 0,.int .i64 0,.int .i64 0,.int .i64 0,.int .i64 0,.int .i64 0,.int .i64 0,.int .i64 0,.int .i64 0,.int .i64 0,.bool false,.bool false,.bool false,.bool false,.int .i64 0,.int .i64 0,.int .i64 0,.int .i64 0]) 24 168 Tryz.underlying124 hi0 hz0 hz1 hz2 rfl (by decide) _ _ _ rfl how1 _ 1 1 L rfl (by omega) (fun j u hj=>bj hj) HON.out (by unfold maxLen;omega) (by omega) (by simp;omega) ?_))
    intro v' w3 hown3 hg3 _
    have HO3:=af hown3
    have HG3:=af hg3
    have HB3:Hid (w3.heap[w.heap.size]?=some (.cells C.toArray 205 (0,0))):=af (by
     have h4:=(Below.heap_alloc w1 (.cells L.toArray 175) _ (lt_of_block HBC2.out)).trans HBC2.out
     exact (hg3.block _ (lt_of_block h4) (fun e=>HNB.out e.symm)).trans h4)
    clear hown3 hg3
    go_wp2_with fail
    go_roundw
    case rel=>exact⟨k+1,by omega,by go_num,HFI.out _ _ HO3.out,aL (ae HG.out (ab HG1.out _)) HG3.out HLT.out,HB3.out⟩
    case measure=>simp[intOf];omega
   |false=>
    have HSK:=af (HSKIP.out rfl)
    clear HFIN HSKIP how1
    go_wp2_with fail
    go_roundw
    case rel=>exact⟨k+1,by omega,by go_num,by rw[HSK.out,←HNL.out,←HXS.out];exact HOWG.out _ HG1.out,ae HG.out HG1.out,HBC2.out⟩
    case measure=>simp[intOf];omega
  ·have hkl:k=l.length:=by omega
   subst hkl
   rw[List.take_length] at HOW
   clear hg hown hbc
   go_wp2_with fail
   go_ret
   exact⟨_,rfl,HOW.out,HG.out⟩
end Go.Proofs.YthlhbjnkohinmabGreat
