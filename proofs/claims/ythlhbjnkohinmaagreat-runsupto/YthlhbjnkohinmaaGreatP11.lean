import Derived.Test.YthlhbjnkohinmaaGreatP10
import Derived.Deep.RegionHeld3
import Derived.Test.YthlhbjnkohinmaaGreatP05
namespace Go.Proofs.YthlhbjnkohinmaaGreat
set_option maxRecDepth 100000
set_option maxHeartbeats 8000000
open Go.RowKit
structure jw (w:World)(x:Nat)(X:ap)(kv:Nat→Value):Prop where
 block:∃ cs,w.heap[x]?=some (.cells cs 91 (0,0))
 rules:w.cell? ⟨x,0,none⟩=some X.src.1.1
 room:w.cell? ⟨x,1,none⟩=some (.int .i64 X.room)
 opened:w.cell? ⟨x,2,none⟩=some (.int .i64 X.opened)
 ses:xD w x X
 store:jg w x 1955 X kv
theorem jw.lt {w:World}{x:Nat}{X:ap}{kv:Nat→Value}(h:jw w x X kv):x<w.heap.size:=by
 obtain⟨cs,hb⟩:=h.block
 exact lt_of_block hb
theorem jg.other {w w':World}{b o a n:Nat}{X:ap}{kv:Nat→Value}(h:jg w b o X kv)(hc:kA w w' b a n)(hd:o+121≤a∨a+n≤o):jg w' b o X kv:=
 ⟨(hc.cell _ (by omega)).trans h.latest,fun c hl=>(hc.cell _ (by omega)).trans (h.last c hl),fun c hl=>(hc.cell _ (by omega)).trans (h.kept c hl)⟩
theorem jw.setSes {w w':World}{x:Nat}{X:ap}{kv:Nat→Value}(h:jw w x X kv){k:Nat}(hk:k<8){S':aI}(hs:cI w' x (3+k*244) S')(hc:kA w w' x (3+k*244) 244):jw w' x (X.setSes k S') kv:=by
 obtain⟨cs,hb⟩:=h.block
 refine⟨hc.blk hb,(hc.cell _ (by omega)).trans h.rules,(hc.cell _ (by omega)).trans h.room,(hc.cell _ (by omega)).trans h.opened,?_,?_⟩
 ·intro j hj
  show cI w' x (3+j*244) (cH X.ses k S' j)
  by_cases e:j=k
  ·subst e;rw[aV];exact hs
  ·rw[bE _ _ _ e]
   exact (h.ses j hj).other hc (by omega)
 ·have:=h.store.other hc (by omega)
  exact⟨this.latest,this.last,this.kept⟩
def gM (x:Nat)(X':ap)(kv:Nat→Value)(w w':World):Prop:=jw w' x X' kv∧Fr [x] w w'
theorem gM.same {x:Nat}{X:ap}{kv:Nat→Value}{w:World}(h:jw w x X kv):gM x X kv w w:=⟨h,Fr.refl _ _⟩
theorem B9 (x:Nat)(X:ap)(kv:Nat→Value)(n:Int)(s:ByteArray)(w:World)(h:jw w x X kv)(hs63:s.size<9223372036854775808)(hm:∀ k,aL X n=some k→(X.ses k).more):
  Calls Tryz.prog 21 #[.pointer (some ⟨x,0,none⟩),.int .i64 n,.string s] w fun e w'=>e=.returned (.int .i64 (cq X n s).1)∧gM x (cq X n s).2 kv w w':=by
 have HF:=af (eV x X n w h.ses)
 have HR:=af (xw s w hs63)
 have HP:=af h
 unfold cq
 cases hf:aL X n with
 |none=>
  rw[hf] at HF
  clear h hf HR hm
  go_enter Tryz.func21,Tryz.ntmps21
  go_wp2_with fail
  go_at_call 41
  refine HF.out.mono ?_
  rintro e w' ⟨rfl,rfl⟩
  simp only[dn]
  go_wp2
  go_ret
  exact⟨rfl,gM.same HP.out⟩
 |some k=>
  rw[hf] at HF
  have hk:k<8:=by
   unfold aL at hf
   split at hf
   ·cases hf
   ·exact (bu hf).1
  simp only[]
  cases hb:eP s with
  |false=>
   have e1:jv s=.tuple #[.int .i64 0,.int .i64 0,.bool false]:=by unfold jv;rw[hb];rfl
   rw[e1] at HR
   clear h hf e1 hb hm
   go_enter Tryz.func21,Tryz.ntmps21
   go_wp2_with fail
   go_at_call 41
   refine HF.out.mono ?_
   rintro e w' ⟨rfl,rfl⟩
   simp only[dn]
   go_wp2_with fail
   go_at_call 42
   refine HR.out.mono ?_
   rintro e w' ⟨rfl,rfl⟩
   go_wp2
   go_ret
   exact⟨rfl,gM.same HP.out⟩
  |true=>
   have e1:jv s=.tuple #[.int .i64 (dM s),.int .i64 (bt s 2 - 48),.bool true]:=by unfold jv;rw[hb];rfl
   rw[e1] at HR
   have hcn:dM s<60:=by
    simp only[eP,Bool.and_eq_true,aQ,bM,decide_eq_true_eq] at hb
    unfold dM
    omega
   obtain⟨cs,hcs⟩:=h.block
   have HSP:=af (CO x (3+k*244) (dM s) (bt s 2 - 48) (X.ses k) w hcn hcs (h.ses k hk) (hm k hf))
   clear h hf e1 hb hcs hm
   simp only[if_true]
   obtain⟨v,hv⟩:∃ v,v=bt s 2 - 48:=⟨_,rfl⟩
   obtain⟨c,hc⟩:∃ c,c=dM s:=⟨_,rfl⟩
   rw[←hv,←hc] at HR HSP ⊢
   clear hv hc hcn
   go_enter Tryz.func21,Tryz.ntmps21
   go_wp2_with fail
   go_at_call 41
   refine HF.out.mono ?_
   rintro e w' ⟨rfl,rfl⟩
   simp only[dn]
   go_wp2_with fail
   go_at_call 42
   refine HR.out.mono ?_
   rintro e w' ⟨rfl,rfl⟩
   go_wp2_with fail
   go_at_call 43
   refine HSP.out.mono ?_
   rintro e w1 ⟨rfl,ht⟩
   have HT:=af ht
   clear ht
   go_wp2
   go_ret
   exact⟨rfl,HP.out.setSes hk HT.out.ses HT.out.chg,HT.out.chg.fr⟩
theorem xy (x:Nat)(X:ap)(kv:Nat→Value)(n:Int)(s:ByteArray)(w:World)(h:jw w x X kv)(hs63:s.size<9223372036854775808)(hm:∀ k,aL X n=some k→(X.ses k).more):
  Calls Tryz.prog 23 #[.pointer (some ⟨x,0,none⟩),.int .i64 n,.string s] w fun e w'=>e=.returned (.int .i64 (aX X n s).1)∧gM x (aX X n s).2 kv w w':=by
 have HF:=af (eV x X n w h.ses)
 have HR:=af (pD s w hs63)
 have HP:=af h
 unfold aX
 cases hf:aL X n with
 |none=>
  rw[hf] at HF
  clear h hf HR hm
  go_enter Tryz.func23,Tryz.ntmps23
  go_wp2_with fail
  go_at_call 41
  refine HF.out.mono ?_
  rintro e w' ⟨rfl,rfl⟩
  simp only[dn]
  go_wp2
  go_ret
  exact⟨rfl,gM.same HP.out⟩
 |some k=>
  rw[hf] at HF
  have hk:k<8:=by
   unfold aL at hf
   split at hf
   ·cases hf
   ·exact (bu hf).1
  simp only[]
  cases hb:eD s with
  |false=>
   have e1:gB s=.tuple #[.int .i64 0,.bool false]:=by unfold gB;rw[hb];rfl
   rw[e1] at HR
   clear h hf e1 hb hm
   go_enter Tryz.func23,Tryz.ntmps23
   go_wp2_with fail
   go_at_call 41
   refine HF.out.mono ?_
   rintro e w' ⟨rfl,rfl⟩
   simp only[dn]
   go_wp2_with fail
   go_at_call 47
   refine HR.out.mono ?_
   rintro e w' ⟨rfl,rfl⟩
   go_wp2
   go_ret
   exact⟨rfl,gM.same HP.out⟩
  |true=>
   have e1:gB s=.tuple #[.int .i64 (dM s),.bool true]:=by unfold gB;rw[hb];rfl
   rw[e1] at HR
   have hcn:dM s<60:=by
    simp only[eD,Bool.and_eq_true,aQ,bM,decide_eq_true_eq] at hb
    unfold dM
    omega
   obtain⟨cs,hcs⟩:=h.block
   have HSP:=af (yd x (3+k*244) (dM s) (X.ses k) w hcn hcs (h.ses k hk) (hm k hf))
   clear h hf e1 hb hcs hm
   simp only[if_true]
   obtain⟨c,hc⟩:∃ c,c=dM s:=⟨_,rfl⟩
   rw[←hc] at HR HSP ⊢
   clear hc hcn
   go_enter Tryz.func23,Tryz.ntmps23
   go_wp2_with fail
   go_at_call 41
   refine HF.out.mono ?_
   rintro e w' ⟨rfl,rfl⟩
   simp only[dn]
   go_wp2_with fail
   go_at_call 47
   refine HR.out.mono ?_
   rintro e w' ⟨rfl,rfl⟩
   go_wp2_with fail
   go_at_call 48
   refine HSP.out.mono ?_
   rintro e w1 ⟨rfl,ht⟩
   have HT:=af ht
   clear ht
   go_wp2
   go_ret
   exact⟨rfl,HP.out.setSes hk HT.out.ses HT.out.chg,HT.out.chg.fr⟩
theorem jw.grown {w w':World}{x:Nat}{X:ap}{kv:Nat→Value}(h:jw w x X kv)(hg:w.grownBy w' none):jw w' x X kv:=by
 obtain⟨cs,hb⟩:=h.block
 refine⟨⟨cs,(hg.block x (lt_of_block hb) (by simp)).trans hb⟩,am hg h.rules,am hg h.room,am hg h.opened,fun k hk=>?_,⟨am hg h.store.latest,fun c hc=>am hg (h.store.last c hc),fun c hc=>am hg (h.store.kept c hc)⟩⟩
 have:=h.ses k hk
 exact⟨am hg this.num,am hg this.snap,am hg this.cnt,fun c hc=>am hg (this.made c hc),fun c hc=>am hg (this.filled c hc),fun c hc=>am hg (this.val c hc),fun c hc=>am hg (this.tm c hc),am hg this.mks,this.ok⟩
theorem lC {w:World}{g n:Nat}{cs:Array Value}{t:TypeId}(hn:cs.size=n)(hb:w.heap[g]?=some (.cells cs t (0,0))):w.there g 0 n:=fun j hj=>by
 refine⟨?_,ai hb _⟩
 rw[cell_of_row _ _ _ _ _ _ hb,Array.getElem?_eq_getElem (by omega)]
 rfl
theorem jN {w:World}{b o x i:Nat}{vs:List Value}(h:x≠b):(w.setCells b o vs).cell? ⟨x,i,none⟩=w.cell? ⟨x,i,none⟩:=World.cell?_setCells_out b vs o w ⟨x,i,none⟩ (fun hb _=>absurd hb h)
theorem cy {w:World}{r:Option Nat}{b:Nat}(hb:w.heap.size≤b):∀ (vs:List Value) (o:Nat) {w':World},w.grownBy w' r→w.grownBy (w'.setCells b o vs) r
 |[],_,_,h=>h
 |v::vs,o,_,h=>cy hb vs (o+1) (aj h (.inr hb) v)
theorem sk (w:World){n:Nat}{cs:Array Value}{t:TypeId}(hn:cs.size=n):(w.alloc (.cells cs t)).there w.heap.size 0 n:=lC hn (heap_alloc_new w _)
def fQ (X:ap)(k:Nat):List au:=dj (X.ses k) (fun c=>aM (X.hist c) (X.ses k).snap) 60
def E9 (g:Nat→Option Int):Prop:=∀ c v,c<60→g c=some v→0≤v∧v≤9
theorem nW (X:ap)(k c:Nat):(cL (X.ses k) (fun c=>aM (X.hist c) (X.ses k).snap) c).map (·.1)=ji X k c:=by
 unfold cL ji
 cases h:(X.ses k).wr c with
 |none=>simp[gp,Function.comp_def]
 |some v=>simp[Function.comp_def]
theorem jD {X:ap}{k:Nat}{q:au}(h:q∈fQ X k):q.1<60∧ji X k q.1=some q.2.1:=by
 unfold fQ dj at h
 obtain⟨c,hc,hm⟩:=List.mem_filterMap.mp h
 cases hs:cL (X.ses k) (fun c=>aM (X.hist c) (X.ses k).snap) c with
 |none=>rw[hs] at hm;cases hm
 |some p=>
  rw[hs] at hm
  simp only[Option.map_some,Option.some.injEq] at hm
  rw[←hm]
  have:=nW X k c
  rw[hs] at this
  exact⟨by simpa using hc,this.symm⟩
theorem A4 (X:ap)(k:Nat):oD X k=cg ((fQ X k).map fun q=>cw q.1 q.2.1):=by
 unfold oD fQ dj
 rw[List.map_filterMap]
 congr 2
 funext c
 rw[←nW X k c]
 cases cL (X.ses k) (fun c=>aM (X.hist c) (X.ses k).snap) c <;> rfl
theorem tI (X:ap)(k:Nat):(fQ X k).length≤60:=iy _ _ _
theorem rU (x:Nat)(X:ap)(kv:Nat→Value)(k:Nat)(w:World)(hk:k<8)(h:jw w x X kv)(hR:oJ w X kv)(hl:∀ c,c<60→(X.hist c).length≤9223372036854775807):
  Calls Tryz.prog 49 #[.pointer (some ⟨x,0,none⟩),.pointer (some ⟨x,3+k*244,none⟩)] w fun e w'=>∃ v,e=.returned v∧w'.ownsRow w.heap.size 114 4 v (fQ X k).length (bF (fQ X k))∧w.grownBy w' none:=by
 have c1:=(h.ses k hk).snap
 have hxl:=h.lt
 obtain⟨sn,hsn⟩:∃ sn,sn=(X.ses k).snap:=⟨_,rfl⟩
 rw[←hsn] at c1
 have HAT:Hid (∀ W,w.grownBy W none→Calls Tryz.prog 65 #[.pointer (some ⟨x,1955,none⟩),.int .i64 sn] W fun e w'=>(∃ sc,e=.returned (.agg sc)∧jf sc 60 (fun c=>aM (X.hist c) sn))∧W.grownBy w' none):=af (fun W hg=>yB x 1955 X kv sn W (h.grown hg).store (fun c hc=>jx hg (hR c hc)) hl)
 have HSV:Hid (∀ W sc,w.grownBy W none→jf sc 60 (fun c=>aM (X.hist c) sn)→Calls Tryz.prog 83 #[.pointer (some ⟨x,3+k*244,none⟩),.agg sc] W fun e w'=>∃ v,e=.returned v∧w'.ownsRow w.heap.size 114 4 v (fQ X k).length (bF (fQ X k))∧W.grownBy w' none):=af (fun W sc hg hsc=>by
  have:=sx x (3+k*244) (X.ses k) (fun c=>aM (X.hist c) sn) sc W ((h.grown hg).ses k hk) hsc
  rw[hsn] at this
  refine this.mono ?_
  rintro e w' ⟨v,rfl,ho,hg'⟩
  exact⟨v,rfl,bO ho hg.size,hg'⟩)
 obtain⟨hz,hzs⟩:=zero_of_info Tryz.zinfo139
 obtain⟨z,hzz⟩:∃ z,z=iU:=⟨_,rfl⟩
 have hzsz:Hid (z.size=180):=af (by rw[hzz];exact ig)
 rw[←hzz] at hz
 have HZS:=af hzs
 clear h hR hl hzz hzs hsn
 have hxz:x≠w.heap.size:=by omega
 obtain⟨F,hF⟩:∃ F,F=fQ X k:=⟨_,rfl⟩
 rw[←hF] at HSV ⊢
 clear hF
 go_enter Tryz.func49,Tryz.ntmps49
 go_wp2_with fail
 have hne:=World.new_ne w ⟨x,3+k*244+1,none⟩ c1
 go_region_held3 (fun W=>W.cell? ⟨x,3+k*244+1,none⟩=some (.int .i64 sn)) (first|go_keep|(exact am hg1 (by assumption))|(rw[jN (by first|exact hxn1|exact hxz)];assumption)) (first
  |(go_at_call 65
    refine (HAT.out _ (by first|exact al (ag _ _) 1|exact al (ab (ag _ _) _) 1|exact ab (al (ag _ _) 1) _)).mono ?_
    rintro e w1 ⟨⟨sc,rfl,hsc⟩,hg1⟩
    obtain⟨cl,rfl⟩:∃ cl:List Value,sc=cl.toArray:=⟨sc.toList,by simp⟩
    have HSC:=af hsc
    have hcl:cl.length=180:=by have:=hsc.size;simpa using this
    have hinf:(Tryz.prog.info? 139).map (·.size)=some cl.length:=HZS.out.trans (by rw[hcl])
    have hone:∀ v∈cl,v.oneCell'=true:=fun v hv=>Array.all_eq_true_iff_forall_mem.1 hsc.one v (by simpa using hv)
    clear hsc
    have hxn1:x≠w1.heap.size:=by have:=hg1.size;simp at this;omega
    have HthA:(w1.alloc (.cells z 139)).there w1.heap.size 0 180:=sk w1 hzsz.out
    try (have HthB:w1.there w.heap.size 0 180:=lC hzsz.out ((hg1.block w.heap.size (by simp) (by simp)).trans (heap_alloc_new _ _)))))
 ·have HR2:=af (World.rangeAt_setCells_same _ w1.heap.size 0 cl (by rw[hcl];exact HthA))
  have HG2:Hid (w.grownBy ((w1.alloc (.cells z 139)).setCells w1.heap.size 0 cl) none):=af (cy (by have:=hg1.size;simpa using this) _ _ (ab (cD (n:=1) hg1) _))
  clear HthA hg1
  generalize (w1.alloc (.cells z 139)).setCells w1.heap.size 0 cl=W2 at HR2 HG2 ⊢
  go_wp2_with (refine wpList_load_mid rfl 139 (.tmp 5) rfl w1.heap.size 0 rfl cl _ HR2.out Tryz.underlying139 rfl hinf ?_)
  go_at_call 83
  refine (HSV.out _ _ HG2.out HSC.out).mono ?_
  rintro e w3 ⟨v,rfl,hown,hg3⟩
  have HG3:=af hg3
  have HOW:=af hown
  clear hg3 hown
  go_wp2
  go_ret
  exact⟨v,rfl,HOW.out,ae HG2.out HG3.out⟩
 ·have HR2:=af (World.rangeAt_setCells_same _ w.heap.size 0 cl (by rw[hcl];exact HthB))
  have HG2:Hid (w.grownBy (w1.setCells w.heap.size 0 cl) none):=af (cy (Nat.le_refl _) _ _ (ae (by first|exact al (ab (ag _ _) _) 1|exact ab (al (ag _ _) 1) _) hg1))
  clear HthA HthB hg1
  generalize w1.setCells w.heap.size 0 cl=W2 at HR2 HG2 ⊢
  go_wp2_with (refine wpList_load_mid rfl 139 (.tmp 5) rfl w.heap.size 0 rfl cl _ HR2.out Tryz.underlying139 rfl hinf ?_)
  go_at_call 83
  refine (HSV.out _ _ HG2.out HSC.out).mono ?_
  rintro e w3 ⟨v,rfl,hown,hg3⟩
  have HG3:=af hg3
  have HOW:=af hown
  clear hg3 hown
  go_wp2
  go_ret
  exact⟨v,rfl,HOW.out,ae HG2.out HG3.out⟩
theorem uX (F:List au)(j:Nat)(hj:j<F.length):cg ((F.take (j+1)).map fun q=>cw q.1 q.2.1)=cg ((F.take j).map fun q=>cw q.1 q.2.1)++cw F[j].1 F[j].2.1:=by
 rw[List.take_succ_eq_append_getElem hj,List.map_append]
 exact id _ _
theorem je (F:List au):(cg (F.map fun q=>cw q.1 q.2.1)).size=3*F.length:=by
 have key:∀ (l:List au) (z:ByteArray),((l.map fun q=>cw q.1 q.2.1).foldl (·++·) z).size=z.size+3*l.length:=by
  intro l
  induction l with
  |nil=>intro z;simp
  |cons q l ih=>
   intro z
   rw[List.map_cons,List.foldl_cons,ih,ByteArray.size_append,j8]
   simp
   omega
 have:=key F ByteArray.empty
 unfold cg
 rw[this]
 simp
theorem AV (x:Nat)(X:ap)(kv:Nat→Value)(n:Int)(w:World)(h:jw w x X kv)(hR:oJ w X kv)(hl:∀ c,c<60→(X.hist c).length≤9223372036854775807)(hd:∀ k,aL X n=some k→E9 (ji X k)):
  Calls Tryz.prog 25 #[.pointer (some ⟨x,0,none⟩),.int .i64 n] w fun e w'=>e=.returned (.tuple #[.string (fM X n).1,.int .i64 (fM X n).2])∧w.grownBy w' none:=by
 have HF:=af (eV x X n w h.ses)
 unfold fM
 cases hf:aL X n with
 |none=>
  rw[hf] at HF
  clear h hf hR hl hd
  go_enter Tryz.func25,Tryz.ntmps25
  go_wp2_with fail
  go_at_call 41
  refine HF.out.mono ?_
  rintro e w' ⟨rfl,rfl⟩
  simp only[dn]
  go_wp2
  go_ret2
  exact⟨rfl,ag _ _⟩
 |some k=>
  rw[hf] at HF
  have hk:k<8:=by
   unfold aL at hf
   split at hf
   ·cases hf
   ·exact (bu hf).1
  simp only[]
  have HSE:=af (rU x X kv k w hk h hR hl)
  have HD:Hid (∀ q∈fQ X k,q.1<60∧0≤q.2.1∧q.2.1≤9):=af (fun q hq=>⟨(jD hq).1,hd k hf q.1 q.2.1 (jD hq).1 (jD hq).2⟩)
  have hFl:=tI X k
  rw[A4]
  obtain⟨F,hF⟩:∃ F,F=fQ X k:=⟨_,rfl⟩
  rw[←hF] at HSE HD hFl ⊢
  clear h hf hR hl hd hF
  go_enter Tryz.func25,Tryz.ntmps25
  go_wp2_with fail
  go_at_call 41
  refine HF.out.mono ?_
  rintro e w' ⟨rfl,rfl⟩
  simp only[dn]
  go_wp2_with fail
  go_at_call 49
  refine HSE.out.mono ?_
  rintro e w1 ⟨v,rfl,hown,hg1⟩
  obtain⟨a,m,c,rfl⟩:=an hown
  have em:=ar hown
  subst em
  have HG1:=af hg1
  have HOW:=af hown
  clear HSE hg1 hown HF
  go_wp2_with fail
  go_loopw [8,21] (fun t i wr=>∃ j:Nat,j≤F.length∧i=.int .i64 j∧t=.string (cg ((F.take j).map fun q=>cw q.1 q.2.1))∧w1.grownBy wr none) (fun _ i _=>F.length - (intOf i).toNat)
  case atStart=>exact⟨0,Nat.zero_le _,rfl,rfl,ag _ _⟩
  case round=>
   obtain⟨j,hj,rfl,rfl,hg⟩:=hrel
   have HG:=af hg
   by_cases hlt:j<F.length
   ·have how:=aq HOW.out hg (fun g hg=>by cases hg)
    obtain⟨g,rfl,_,hgb,hgl,hcell⟩:=aC how (by omega)
    obtain⟨a0,a1,a2,a3⟩:=mu F j hlt
    have d0:=hcell _ _ a0
    have d1:=hcell _ _ a1
    have d2:=hcell _ _ a2
    have d3:=hcell _ _ a3
    obtain⟨hb1,hb2,hb3⟩:=HD.out F[j] (List.getElem_mem hlt)
    have HTX:=af (fun W=>no F[j].1 F[j].2.1 F[j].2.2 W hb1 hb2 hb3)
    unfold lk at HTX
    have HJ:=af (uX F j hlt)
    have hjs:(cg ((F.take j).map fun q=>cw q.1 q.2.1)).size≤180:=by rw[je];simp;omega
    have hfz:=j8 F[j].1 F[j].2.1
    obtain⟨jt,hjt⟩:∃ jt,jt=cg ((F.take j).map fun q=>cw q.1 q.2.1):=⟨_,rfl⟩
    obtain⟨ft,hft⟩:∃ ft,ft=cw F[j].1 F[j].2.1:=⟨_,rfl⟩
    rw[←hjt] at hjs HJ ⊢
    rw[←hft] at hfz HJ HTX
    have hgz:g≠wr.heap.size:=by omega
    obtain⟨c0,hc0⟩:∃ c0,c0=F[j].1:=⟨_,rfl⟩
    obtain⟨v0,hv0⟩:∃ v0,v0=F[j].2.1:=⟨_,rfl⟩
    obtain⟨t0,ht0⟩:∃ t0,t0=F[j].2.2:=⟨_,rfl⟩
    rw[←hc0] at d0 d1
    rw[←hv0] at d2
    rw[←ht0] at d3
    simp only[] at HTX
    rw[←hc0,←hv0,←ht0] at HTX
    clear hjt hft hcell a0 a1 a2 a3 hb1 hb2 hb3 hc0 hv0 ht0 how hg
    go_wp2_with fail
    go_at_call 50
    refine (HTX.out _).mono ?_
    rintro e w2 ⟨rfl,hg2⟩
    have HG2:=af hg2
    clear hg2
    go_wp2_with fail
    go_roundw
    case rel=>exact⟨j+1,by omega,by go_num,by rw[HJ.out],ae HG.out (ae (ab (ag _ _) _) HG2.out)⟩
    case measure=>simp[intOf];omega
   ·clear hg
    go_wp2
    go_ret2
    have e:F.take j=F:=List.take_of_length_le (by omega)
    rw[e]
    exact⟨rfl,ae HG1.out HG.out⟩
theorem jB {α:Type}{f:Nat→List α}(hf:∀ c,(f c).length=4):∀ n,((List.range n).flatMap f).length=n*4
 |0=>rfl
 |n+1=>by rw[List.range_succ,List.flatMap_append,List.length_append,jB hf n];simp[hf];omega
theorem kZ {α:Type}{f:Nat→List α}(hf:∀ c,(f c).length=4){c j:Nat}(hj:j<4):∀ n,c<n→((List.range n).flatMap f)[c*4+j]?=(f c)[j]?
 |0,h=>by omega
 |n+1,h=>by
  rw[List.range_succ,List.flatMap_append]
  by_cases e:c=n
  ·subst e
   rw[List.getElem?_append_right (by rw[jB hf];omega),jB hf]
   simp
  ·rw[List.getElem?_append_left (by rw[jB hf];omega)]
   exact kZ hf hj n (by omega)
def aZ (wr:Nat→PW)(tm:Nat→Int):List Value:=(List.range 60).flatMap fun c=>[.bool (iS (wr c)),.bool (gY (wr c)),.int .i64 (qZ (wr c)),.int .i64 (tm c)]
def cZ (S:aI):List Value:=.int .i64 S.num::.int .i64 S.snap::.int .i64 S.made::(aZ S.wr S.tm++[Fk S.mks])
theorem dS (wr:Nat→PW)(tm:Nat→Int):(aZ wr tm).length=240:=jB (fun _=>rfl) 60
theorem bZ (S:aI):(cZ S).length=244:=by simp[cZ,dS]
theorem dT (wr:Nat→PW)(tm:Nat→Int){c:Nat}(hc:c<60):(aZ wr tm)[c*4]?=some (.bool (iS (wr c)))∧(aZ wr tm)[c*4+1]?=some (.bool (gY (wr c)))∧(aZ wr tm)[c*4+2]?=some (.int .i64 (qZ (wr c)))∧(aZ wr tm)[c*4+3]?=some (.int .i64 (tm c)):=
 ⟨kZ (j:=0) (fun _=>rfl) (by omega) 60 hc,kZ (j:=1) (fun _=>rfl) (by omega) 60 hc,kZ (j:=2) (fun _=>rfl) (by omega) 60 hc,kZ (j:=3) (fun _=>rfl) (by omega) 60 hc⟩
theorem sQ (wr:Nat→PW)(tm:Nat→Int):∀ v∈aZ wr tm,v.oneCell'=true:=by
 intro v hv
 unfold aZ at hv
 rw[List.mem_flatMap] at hv
 obtain⟨c,_,h⟩:=hv
 simp at h
 rcases h with rfl|rfl|rfl|rfl <;> rfl
theorem jY (S:aI):∀ v∈cZ S,v.oneCell'=true:=by
 intro v hv
 unfold cZ at hv
 simp only[List.mem_cons,List.mem_append,List.not_mem_nil,or_false] at hv
 rcases hv with rfl|rfl|rfl|hv|rfl
 ·rfl
 ·rfl
 ·rfl
 ·exact sQ _ _ v hv
 ·cases S.mks <;> rfl
theorem cI.writes {w:World}{b o:Nat}{S:aI}(h:cI w b o S):w.rangeAt b (o+3) (aZ S.wr S.tm):=by
 intro j v hv
 have hj:j<240:=by
  have:=(List.getElem?_eq_some_iff.1 hv).1
  rw[dS] at this
  exact this
 obtain⟨a0,a1,a2,a3⟩:=dT S.wr S.tm (c:=j / 4) (by omega)
 have e:j=j / 4*4∨j=j / 4*4+1∨j=j / 4*4+2∨j=j / 4*4+3:=by omega
 rcases e with e|e|e|e
 ·rw[e,a0] at hv
  rw[e,←hv]
  exact h.made (j / 4) (by omega)
 ·rw[e,a1] at hv
  rw[e,←hv]
  exact h.filled (j / 4) (by omega)
 ·rw[e,a2] at hv
  rw[e,←hv]
  exact h.val (j / 4) (by omega)
 ·rw[e,a3] at hv
  rw[e,←hv]
  exact h.tm (j / 4) (by omega)
theorem cI.range {w:World}{b o:Nat}{S:aI}(h:cI w b o S):w.rangeAt b o (cZ S):=by
 intro j v hv
 match j,hv with
 |0,hv=>
  simp[cZ] at hv
  rw[←hv]
  exact h.num
 |1,hv=>
  simp[cZ] at hv
  rw[←hv]
  exact h.snap
 |2,hv=>
  simp[cZ] at hv
  rw[←hv]
  exact h.cnt
 |j+3,hv=>
  have hv':(aZ S.wr S.tm++[Fk S.mks])[j]?=some v:=by simpa only [cZ,List.getElem?_cons_succ] using hv
  rw[show o+(j+3)=o+3+j by omega]
  by_cases hj:j<240
  ·rw[List.getElem?_append_left (by rw[dS];exact hj)] at hv'
   exact h.writes j v hv'
  ·rw[List.getElem?_append_right (by rw[dS];omega),dS] at hv'
   have e:j=240:=by
    have:=(List.getElem?_eq_some_iff.1 hv').1
    simp at this
    omega
   subst e
   simp at hv'
   rw[←hv']
   exact h.mks
theorem cI.of {w:World}{b o:Nat}{S:aI}(h:w.rangeAt b o (cZ S))(hk:S.ok):cI w b o S:=by
 have hw:∀ j v,(aZ S.wr S.tm)[j]?=some v→w.cell? ⟨b,o+3+j,none⟩=some v:=fun j v hv=>by
  have hj:j<(aZ S.wr S.tm).length:=(List.getElem?_eq_some_iff.1 hv).1
  have:=h (j+3) v (by
   show (aZ S.wr S.tm++[Fk S.mks])[j]?=some v
   rw[List.getElem?_append_left hj]
   exact hv)
  rw[show o+(j+3)=o+3+j by omega] at this
  exact this
 exact⟨h 0 _ rfl,h 1 _ rfl,h 2 _ rfl,fun c hc=>hw _ _ (dT S.wr S.tm hc).1,fun c hc=>hw _ _ (dT S.wr S.tm hc).2.1,fun c hc=>hw _ _ (dT S.wr S.tm hc).2.2.1,fun c hc=>hw _ _ (dT S.wr S.tm hc).2.2.2,h 243 _ (by
  show (aZ S.wr S.tm++[Fk S.mks])[240]?=some (Fk S.mks)
  rw[List.getElem?_append_right (by rw[dS];omega),dS]
  rfl),hk⟩
theorem Fv (n t:Int):(aI.new n t).ok:=⟨Int.le_refl 0,rfl⟩
theorem sR:aI.zero.ok:=⟨Int.le_refl 0,rfl⟩
theorem kA.setCells {w:World}{b a n:Nat}:∀ (vs:List Value) (o:Nat) {w':World},a≤o→o+vs.length≤a+n→kA w w' b a n→kA w (w'.setCells b o vs) b a n
 |[],_,_,_,_,h=>h
 |v::vs,o,_,h1,h2,h=>kA.setCells vs (o+1) (by omega) (by simp at h2;omega) (h.set h1 (by simp at h2;omega) v)
theorem jw.there {w:World}{x:Nat}{X:ap}{kv:Nat→Value}(h:jw w x X kv){k:Nat}(hk:k<8):w.there x (3+k*244) 244:=by
 intro j hj
 obtain⟨cs,hb⟩:=h.block
 refine⟨?_,ai hb _⟩
 exact World.rangeAt.isSome (h.ses k hk).range j (by rw[bZ];exact hj)
theorem jw.lay {w:World}{x:Nat}{X:ap}{kv:Nat→Value}(h:jw w x X kv){k:Nat}(hk:k<8)(S':aI)(hk':S'.ok):jw (w.setCells x (3+k*244) (cZ S')) x (X.setSes k S') kv∧Fr [x] w (w.setCells x (3+k*244) (cZ S')):=by
 have hc:kA w (w.setCells x (3+k*244) (cZ S')) x (3+k*244) 244:=kA.setCells _ _ (Nat.le_refl _) (by rw[bZ];omega) (kA.refl _ _ _ _)
 exact⟨h.setSes hk (.of (World.rangeAt_setCells_same _ _ _ _ (by rw[bZ];exact h.there hk)) hk') hc,hc.fr⟩
theorem iN:Tryz.zeroCells82.toList=cZ .zero:=by kernel_rfl
theorem fZ {P:Program}(w:World)(b o:Nat)(cs:List Value)(ht:w.there b o cs.length)(h1:∀ v∈cs,v.oneCell'=true):(storeCells ⟨b,o,none⟩ cs 0).run P w=.ok () (w.setCells b o cs):=by
 have:=run_storeCells_cells (P:=P) b o cs 0 w (fun j hj=>by simpa using (ht j hj).1) (fun j hj=>by simpa using (ht j hj).2) h1
 simpa using this
theorem xB (x:Nat)(X:ap)(kv:Nat→Value)(n:Int)(w:World)(h:jw w x X kv):
  Calls Tryz.prog 27 #[.pointer (some ⟨x,0,none⟩),.int .i64 n] w fun e w'=>e=.returned (.int .i64 (aW X n).1)∧gM x (aW X n).2 kv w w':=by
 have HF:=af (eV x X n w h.ses)
 have HP:=af h
 unfold aW
 cases hf:aL X n with
 |none=>
  rw[hf] at HF
  clear h hf
  go_enter Tryz.func27,Tryz.ntmps27
  go_wp2_with fail
  go_at_call 41
  refine HF.out.mono ?_
  rintro e w' ⟨rfl,rfl⟩
  simp only[dn]
  go_wp2
  go_ret
  exact⟨rfl,gM.same HP.out⟩
 |some k=>
  rw[hf] at HF
  have hk:k<8:=by
   unfold aL at hf
   split at hf
   ·cases hf
   ·exact (bu hf).1
  simp only[]
  have HL:=af (h.lay hk .zero sR)
  have hst:=fZ (P:=Tryz.prog) w x (3+k*244) Tryz.zeroCells82.toList (by rw[iN,bZ];exact h.there hk) (by rw[iN];exact jY _)
  rw[←iN] at HL
  clear h hf
  go_enter Tryz.func27,Tryz.ntmps27
  go_wp2_with fail
  go_at_call 41
  refine HF.out.mono ?_
  rintro e w' ⟨rfl,rfl⟩
  simp only[dn]
  go_wp2_with fail
  go_ret
  exact⟨rfl,HL.out⟩
theorem AE (x:Nat)(X:ap)(kv:Nat→Value)(w:World)(h:jw w x X kv)(ho:0≤X.opened∧X.opened<9223372036854775807):
  Calls Tryz.prog 19 #[.pointer (some ⟨x,0,none⟩)] w fun e w'=>e=.returned (.tuple #[.int .i64 (aY X).1.1,.int .i64 (aY X).1.2])∧gM x (aY X).2 kv w w':=by
 have HF:=af (nB x X 0 w h.ses)
 have HP:=af h
 unfold aY
 cases hf:bd X 0 with
 |none=>
  rw[hf] at HF
  clear h hf ho
  go_enter Tryz.func19,Tryz.ntmps19
  go_wp2_with fail
  go_at_call 40
  refine HF.out.mono ?_
  rintro e w' ⟨rfl,rfl⟩
  simp only[dn]
  go_wp2
  go_ret2
  exact⟨rfl,gM.same HP.out⟩
 |some k=>
  rw[hf] at HF
  have hk:k<8:=(bu hf).1
  simp only[]
  obtain⟨cs,hb⟩:=h.block
  have c2:=h.opened
  have z2:=ai hb 2
  have c3:=h.store.latest
  have hch:kA w (w.setCell ⟨x,2,none⟩ (.int .i64 (X.opened+1))).drew x 2 1:=((kA.refl w x 2 1).set (by omega) (by omega) _).drewN 1
  have hP1:jw (w.setCell ⟨x,2,none⟩ (.int .i64 (X.opened+1))).drew x { X with opened:=X.opened+1 } kv:=by
   refine⟨hch.blk hb,(hch.cell _ (by omega)).trans h.rules,(hch.cell _ (by omega)).trans h.room,?_,fun j hj=>(h.ses j hj).other hch (by omega),?_⟩
   ·show World.cell? (World.setCell _ _ _) _=_
    rw[World.cell?_setCell_same _ _ _ h.opened]
   ·have:=h.store.other hch (by omega)
    exact⟨this.latest,this.last,this.kept⟩
  have hL:(Tryz.zeroCells82.toList.set 0 (.int .i64 (X.opened+1))).set 1 (.int .i64 X.latest)=cZ (.new (X.opened+1) X.latest):=by rw[iN];rfl
  have hlay:=hP1.lay hk (.new (X.opened+1) X.latest) (Fv _ _)
  have hst:=fZ (P:=Tryz.prog) (w.setCell ⟨x,2,none⟩ (.int .i64 (X.opened+1))).drew x (3+k*244) ((Tryz.zeroCells82.toList.set 0 (.int .i64 (X.opened+1))).set 1 (.int .i64 X.latest)) (by rw[hL,bZ];exact hP1.there hk) (by rw[hL];exact jY _)
  have c4:((w.setCell ⟨x,2,none⟩ (.int .i64 (X.opened+1))).drew.setCells x (3+k*244) ((Tryz.zeroCells82.toList.set 0 (.int .i64 (X.opened+1))).set 1 (.int .i64 X.latest))).cell? ⟨x,2,none⟩=some (.int .i64 (X.opened+1)):=by rw[hL];exact hlay.1.opened
  rw[←hL] at hlay
  have HL:Hid (gM x { X with opened:=X.opened+1,ses:=cH X.ses k (.new (X.opened+1) X.latest) } kv w ((w.setCell ⟨x,2,none⟩ (.int .i64 (X.opened+1))).drew.setCells x (3+k*244) ((Tryz.zeroCells82.toList.set 0 (.int .i64 (X.opened+1))).set 1 (.int .i64 X.latest)))):=af ⟨hlay.1,hch.fr.trans hlay.2⟩
  clear hlay hL hP1 hch
  obtain⟨op,hop⟩:∃ op,op=X.opened:=⟨_,rfl⟩
  obtain⟨lt,hlt⟩:∃ lt,lt=X.latest:=⟨_,rfl⟩
  rw[←hop] at c2 ho hst c4 HL ⊢
  rw[←hlt] at c3 hst c4 HL ⊢
  obtain⟨ho1,ho2⟩:=ho
  clear h hf hb hop hlt
  go_enter Tryz.func19,Tryz.ntmps19
  go_wp2_with fail
  go_at_call 40
  refine HF.out.mono ?_
  rintro e w' ⟨rfl,rfl⟩
  simp only[dn]
  go_wp2_with fail
  go_region
  all_goals go_wp2_with fail
  all_goals go_ret2
  all_goals exact⟨rfl,HL.out⟩
def g8 (v:Value)(h:List (Int×Option Int)):eX:=bn 138 3 v h.length (cj h)
theorem g8.framed (v:Value)(h:List (Int×Option Int)):bS (g8 v h):=bn.framed _ _ _ _ _
theorem g8.within (v:Value)(h:List (Int×Option Int)):bV (g8 v h):=bn.within _ _ _ _ _
def oP (kv:Nat→Value)(x:Nat)(X:ap):eX:=fun w f=>jw w x X kv∧∃ f2,aA g8 ((List.range 60).map kv) ((List.range 60).map X.hist) w f2∧f=x::f2
def aU (x:Nat)(X:ap):eX:=fun w f=>∃ kv,oP kv x X w f
theorem y8 {w w':World}{S:List Nat}(h:Fr S w w'){b:Nat}(hb:b<w.heap.size)(hs:b∉S)(i:Nat):w'.cell? ⟨b,i,none⟩=w.cell? ⟨b,i,none⟩:=by simp only[World.cell?,h.block b hb hs]
theorem jw.fr {w w':World}{x:Nat}{X:ap}{kv:Nat→Value}{S:List Nat}(h:jw w x X kv)(hf:Fr S w w')(hs:x∉S):jw w' x X kv:=by
 have hl:=h.lt
 obtain⟨cs,hb⟩:=h.block
 have e:=y8 hf hl hs
 exact⟨⟨cs,(hf.block x hl hs).trans hb⟩,(e _).trans h.rules,(e _).trans h.room,(e _).trans h.opened,fun k hk=>(h.ses k hk).fr hf hl hs,⟨(e _).trans h.store.latest,fun c hc=>(e _).trans (h.store.last c hc),fun c hc=>(e _).trans (h.store.kept c hc)⟩⟩
theorem oP.framed (kv:Nat→Value)(x:Nat)(X:ap):bS (oP kv x X):=by
 rintro S w w' f ⟨h1,f2,h2,rfl⟩ hf hs
 exact⟨h1.fr hf (hs x (by simp)),f2,aA.framed g8.framed _ _ h2 hf (fun g hg=>hs g (by simp[hg])),rfl⟩
theorem aU.framed (x:Nat)(X:ap):bS (aU x X):=by
 rintro S w w' f ⟨kv,h⟩ hf hs
 exact⟨kv,oP.framed kv x X h hf hs⟩
theorem aU.within (x:Nat)(X:ap):bV (aU x X):=by
 rintro w f ⟨kv,h1,f2,h2,rfl⟩ g hg
 rcases List.mem_cons.mp hg with rfl|hg
 ·exact h1.lt
 ·exact aA.within g8.within _ _ h2 g hg
theorem oP.rows {kv:Nat→Value}{x:Nat}{X:ap}{w:World}{f:List Nat}(h:oP kv x X w f):oJ w X kv:=by
 obtain⟨_,f2,h2,_⟩:=h
 intro c hc
 obtain⟨g,h3,_⟩:=aA.get h2 c (by simpa using hc) (by simpa using hc)
 simp only[List.getElem_map,List.getElem_range] at h3
 exact h3.1
def cM (P:eX)(f:List Nat)(w w':World):Prop:=∃ f',P w' f'∧f'.Nodup∧(∀ x∈f',x∈f∨w.heap.size≤x)∧Fr f w w'
theorem gM.to {x:Nat}{X X':ap}{kv:Nat→Value}{w w':World}{f:List Nat}(h:oP kv x X w f)(hn:f.Nodup)(hh:X'.hist=X.hist)(hp:gM x X' kv w w'):cM (aU x X') f w w':=by
 obtain⟨h1,f2,h2,rfl⟩:=h
 rw[List.nodup_cons] at hn
 refine⟨x::f2,⟨kv,hp.1,f2,?_,rfl⟩,by rw[List.nodup_cons];exact hn,fun k hk=>.inl hk,hp.2.mono (fun k hk=>.inl (by simp at hk;simp[hk]))⟩
 rw[hh]
 exact aA.framed g8.framed _ _ h2 hp.2 (fun k hk hs=>by simp at hs;exact hn.1 (hs▸hk))
theorem cM.before {P:eX}{f:List Nat}{w w0 w':World}(h:cM P f w0 w')(hf:Fr [] w w0):cM P f w w':=by
 obtain⟨f',a,n,s,r⟩:=h
 refine⟨f',a,n,fun k hk=>?_,(hf.mono (fun k hk=>by cases hk)).trans r⟩
 rcases s k hk with h|h
 ·exact .inl h
 ·exact .inr (Nat.le_trans hf.size h)
theorem bC {w0 w1:World}{f:List Nat}(hf:Fr f w0 w1){b i:Nat}{v:Value}(h:w0.cell? ⟨b,i,none⟩=some v)(hn:b∉f):w1.cell? ⟨b,i,none⟩=some v:=by
 rw[y8 hf (World.block_lt_of_cell? w0 _ h) hn];exact h
theorem az (w:World)(o:Obj):Fr [] w (w.alloc o):=(Fr.refl [] w).alloc o
theorem as {w w':World}(h:Fr [] w w'):Fr [] w w'.drew:=h.drewN 1
theorem cM.refl {x:Nat}{X:ap}{f:List Nat}{w w':World}(h:aU x X w f)(hn:f.Nodup)(hf:Fr [] w w'):cM (aU x X) f w w':=⟨f,aU.framed _ _ h hf (by simp),hn,fun _ hx=>.inl hx,hf.mono (fun k hk=>by cases hk)⟩
theorem b8 {w:World}{cs:Array Value}{t:TypeId}{j:Nat}{v:Value}(h:cs[j]?=some v):(w.alloc (.cells cs t)).cell? ⟨w.heap.size,j,none⟩=some v:=by rw[cell_of_row _ _ _ _ _ _ (heap_alloc_new w _)];exact h
theorem aB {w w0:World}(hf:Fr [] w w0){b i:Nat}{v:Value}(h:w.cell? ⟨b,i,none⟩=some v):w0.cell? ⟨b,i,none⟩=some v:=bC hf h (by simp)
end Go.Proofs.YthlhbjnkohinmaaGreat
