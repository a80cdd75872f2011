import Derived.Test.YthlhbjnkohinmaaGreatP10
import Derived.Deep.RegionHeld3
import Derived.Test.YthlhbjnkohinmaaGreatP05
namespace Go.Proofs.YthlhbjnkohinmaaGreat
set_option maxRecDepth 100000
set_option maxHeartbeats 8000000
open Go.RowKit
structure jv (w:World)(x:Nat)(X:ap)(kv:Nat→Value):Prop where
 block:∃ cs,w.heap[x]?=some (.cells cs 91 (0,0))
 rules:w.cell? ⟨x,0,none⟩=some X.src.1.1
 room:w.cell? ⟨x,1,none⟩=some (.int .i64 X.room)
 opened:w.cell? ⟨x,2,none⟩=some (.int .i64 X.opened)
 ses:xz w x X
 store:jo w x 1955 X kv
theorem jv.lt {w:World}{x:Nat}{X:ap}{kv:Nat→Value}(h:jv w x X kv):x<w.heap.size:=by
 obtain⟨cs,hb⟩:=h.block
 exact lt_of_block hb
theorem jo.other {w w':World}{b o a n:Nat}{X:ap}{kv:Nat→Value}(h:jo w b o X kv)(hc:kB w w' b a n)(hd:o+121≤a∨a+n≤o):jo w' b o X kv:=
 ⟨(hc.cell _ (by omega)).trans h.latest,fun c hl=>(hc.cell _ (by omega)).trans (h.last c hl),fun c hl=>(hc.cell _ (by omega)).trans (h.kept c hl)⟩
theorem jv.setSes {w w':World}{x:Nat}{X:ap}{kv:Nat→Value}(h:jv w x X kv){k:Nat}(hk:k<8){S':aJ}(hs:cJ w' x (3+k*244) S')(hc:kB w w' x (3+k*244) 244):jv w' x (X.setSes k S') kv:=by
 obtain⟨cs,hb⟩:=h.block
 refine⟨hc.blk hb,(hc.cell _ (by omega)).trans h.rules,(hc.cell _ (by omega)).trans h.room,(hc.cell _ (by omega)).trans h.opened,?_,?_⟩
 ·intro j hj
  show cJ w' x (3+j*244) (cI X.ses k S' j)
  by_cases e:j=k
  ·subst e;rw[aW];exact hs
  ·rw[bF _ _ _ e]
   exact (h.ses j hj).other hc (by omega)
 ·have:=h.store.other hc (by omega)
  exact⟨this.latest,this.last,this.kept⟩
def gN (x:Nat)(X':ap)(kv:Nat→Value)(w w':World):Prop:=jv w' x X' kv∧Fr [x] w w'
theorem gN.same {x:Nat}{X:ap}{kv:Nat→Value}{w:World}(h:jv w x X kv):gN x X kv w w:=⟨h,Fr.refl _ _⟩
theorem DI (x:Nat)(X:ap)(kv:Nat→Value)(n:Int)(s:ByteArray)(w:World)(h:jv w x X kv)(hs63:s.size<9223372036854775808)(hm:∀ k,aM X n=some k→(X.ses k).more):
  Calls Tryz.prog 21 #[.pointer (some ⟨x,0,none⟩),.int .i64 n,.string s] w fun e w'=>e=.returned (.int .i64 (cq X n s).1)∧gN x (cq X n s).2 kv w w':=by
 have HF:=af (eW x X n w h.ses)
 have HR:=af (xK s w hs63)
 have HP:=af h
 unfold cq
 cases hf:aM X n with
 |none=>
  rw[hf] at HF
  clear h hf HR hm
  go_enter Tryz.func21,Tryz.ntmps21
  go_wp2_with fail
  go_at_call 41
  refine HF.out.mono ?_
  rintro e w' ⟨rfl,rfl⟩
  simp only[dp]
  go_wp2
  go_ret
  exact⟨rfl,gN.same HP.out⟩
 |some k=>
  rw[hf] at HF
  have hk:k<8:=by
   unfold aM at hf
   split at hf
   ·cases hf
   ·exact (bx hf).1
  simp only[]
  cases hb:eR s with
  |false=>
   have e1:jy s=.tuple #[.int .i64 0,.int .i64 0,.bool false]:=by unfold jy;rw[hb];rfl
   rw[e1] at HR
   clear h hf e1 hb hm
   go_enter Tryz.func21,Tryz.ntmps21
   go_wp2_with fail
   go_at_call 41
   refine HF.out.mono ?_
   rintro e w' ⟨rfl,rfl⟩
   simp only[dp]
   go_wp2_with fail
   go_at_call 42
   refine HR.out.mono ?_
   rintro e w' ⟨rfl,rfl⟩
   go_wp2
   go_ret
   exact⟨rfl,gN.same HP.out⟩
  |true=>
   have e1:jy s=.tuple #[.int .i64 (dN s),.int .i64 (bt s 2 - 48),.bool true]:=by unfold jy;rw[hb];rfl
   rw[e1] at HR
   have hcn:dN s<60:=by
    simp only[eR,Bool.and_eq_true,aR,bN,decide_eq_true_eq] at hb
    unfold dN
    omega
   obtain⟨cs,hcs⟩:=h.block
   have HSP:=af (Cz x (3+k*244) (dN s) (bt s 2 - 48) (X.ses k) w hcn hcs (h.ses k hk) (hm k hf))
   clear h hf e1 hb hcs hm
   simp only[if_true]
   obtain⟨v,hv⟩:∃ v,v=bt s 2 - 48:=⟨_,rfl⟩
   obtain⟨c,hc⟩:∃ c,c=dN s:=⟨_,rfl⟩
   rw[←hv,←hc] at HR HSP ⊢
   clear hv hc hcn
   go_enter Tryz.func21,Tryz.ntmps21
   go_wp2_with fail
   go_at_call 41
   refine HF.out.mono ?_
   rintro e w' ⟨rfl,rfl⟩
   simp only[dp]
   go_wp2_with fail
   go_at_call 42
   refine HR.out.mono ?_
   rintro e w' ⟨rfl,rfl⟩
   go_wp2_with fail
   go_at_call 43
   refine HSP.out.mono ?_
   rintro e w1 ⟨rfl,ht⟩
   have HT:=af ht
   clear ht
   go_wp2
   go_ret
   exact⟨rfl,HP.out.setSes hk HT.out.ses HT.out.chg,HT.out.chg.fr⟩
theorem wP (x:Nat)(X:ap)(kv:Nat→Value)(n:Int)(s:ByteArray)(w:World)(h:jv w x X kv)(hs63:s.size<9223372036854775808)(hm:∀ k,aM X n=some k→(X.ses k).more):
  Calls Tryz.prog 23 #[.pointer (some ⟨x,0,none⟩),.int .i64 n,.string s] w fun e w'=>e=.returned (.int .i64 (aX X n s).1)∧gN x (aX X n s).2 kv w w':=by
 have HF:=af (eW x X n w h.ses)
 have HR:=af (p8 s w hs63)
 have HP:=af h
 unfold aX
 cases hf:aM X n with
 |none=>
  rw[hf] at HF
  clear h hf HR hm
  go_enter Tryz.func23,Tryz.ntmps23
  go_wp2_with fail
  go_at_call 41
  refine HF.out.mono ?_
  rintro e w' ⟨rfl,rfl⟩
  simp only[dp]
  go_wp2
  go_ret
  exact⟨rfl,gN.same HP.out⟩
 |some k=>
  rw[hf] at HF
  have hk:k<8:=by
   unfold aM at hf
   split at hf
   ·cases hf
   ·exact (bx hf).1
  simp only[]
  cases hb:eE s with
  |false=>
   have e1:gJ s=.tuple #[.int .i64 0,.bool false]:=by unfold gJ;rw[hb];rfl
   rw[e1] at HR
   clear h hf e1 hb hm
   go_enter Tryz.func23,Tryz.ntmps23
   go_wp2_with fail
   go_at_call 41
   refine HF.out.mono ?_
   rintro e w' ⟨rfl,rfl⟩
   simp only[dp]
   go_wp2_with fail
   go_at_call 47
   refine HR.out.mono ?_
   rintro e w' ⟨rfl,rfl⟩
   go_wp2
   go_ret
   exact⟨rfl,gN.same HP.out⟩
  |true=>
   have e1:gJ s=.tuple #[.int .i64 (dN s),.bool true]:=by unfold gJ;rw[hb];rfl
   rw[e1] at HR
   have hcn:dN s<60:=by
    simp only[eE,Bool.and_eq_true,aR,bN,decide_eq_true_eq] at hb
    unfold dN
    omega
   obtain⟨cs,hcs⟩:=h.block
   have HSP:=af (xq x (3+k*244) (dN s) (X.ses k) w hcn hcs (h.ses k hk) (hm k hf))
   clear h hf e1 hb hcs hm
   simp only[if_true]
   obtain⟨c,hc⟩:∃ c,c=dN s:=⟨_,rfl⟩
   rw[←hc] at HR HSP ⊢
   clear hc hcn
   go_enter Tryz.func23,Tryz.ntmps23
   go_wp2_with fail
   go_at_call 41
   refine HF.out.mono ?_
   rintro e w' ⟨rfl,rfl⟩
   simp only[dp]
   go_wp2_with fail
   go_at_call 47
   refine HR.out.mono ?_
   rintro e w' ⟨rfl,rfl⟩
   go_wp2_with fail
   go_at_call 48
   refine HSP.out.mono ?_
   rintro e w1 ⟨rfl,ht⟩
   have HT:=af ht
   clear ht
   go_wp2
   go_ret
   exact⟨rfl,HP.out.setSes hk HT.out.ses HT.out.chg,HT.out.chg.fr⟩
theorem jv.grown {w w':World}{x:Nat}{X:ap}{kv:Nat→Value}(h:jv w x X kv)(hg:w.grownBy w' none):jv w' x X kv:=by
 obtain⟨cs,hb⟩:=h.block
 refine⟨⟨cs,(hg.block x (lt_of_block hb) (by simp)).trans hb⟩,am hg h.rules,am hg h.room,am hg h.opened,fun k hk=>?_,⟨am hg h.store.latest,fun c hc=>am hg (h.store.last c hc),fun c hc=>am hg (h.store.kept c hc)⟩⟩
 have:=h.ses k hk
 exact⟨am hg this.num,am hg this.snap,am hg this.cnt,fun c hc=>am hg (this.made c hc),fun c hc=>am hg (this.filled c hc),fun c hc=>am hg (this.val c hc),fun c hc=>am hg (this.tm c hc),am hg this.mks,this.ok⟩
theorem ly {w:World}{g n:Nat}{cs:Array Value}{t:TypeId}(hn:cs.size=n)(hb:w.heap[g]?=some (.cells cs t (0,0))):w.there g 0 n:=fun j hj=>by
 refine⟨?_,ai hb _⟩
 rw[cell_of_row _ _ _ _ _ _ hb,Array.getElem?_eq_getElem (by omega)]
 rfl
theorem jC {w:World}{b o x i:Nat}{vs:List Value}(h:x≠b):(w.setCells b o vs).cell? ⟨x,i,none⟩=w.cell? ⟨x,i,none⟩:=World.cell?_setCells_out b vs o w ⟨x,i,none⟩ (fun hb _=>absurd hb h)
theorem cy {w:World}{r:Option Nat}{b:Nat}(hb:w.heap.size≤b):∀ (vs:List Value) (o:Nat) {w':World},w.grownBy w' r→w.grownBy (w'.setCells b o vs) r
 |[],_,_,h=>h
 |v::vs,o,_,h=>cy hb vs (o+1) (aj h (.inr hb) v)
theorem so (w:World){n:Nat}{cs:Array Value}{t:TypeId}(hn:cs.size=n):(w.alloc (.cells cs t)).there w.heap.size 0 n:=ly hn (heap_alloc_new w _)
def fO (X:ap)(k:Nat):List aw:=dk (X.ses k) (fun c=>aN (X.hist c) (X.ses k).snap) 60
def ER (g:Nat→Option Int):Prop:=∀ c v,c<60→g c=some v→0≤v∧v≤9
theorem on (X:ap)(k c:Nat):(cN (X.ses k) (fun c=>aN (X.hist c) (X.ses k).snap) c).map (·.1)=jl X k c:=by
 unfold cN jl
 cases h:(X.ses k).wr c with
 |none=>simp[gn,Function.comp_def]
 |some v=>simp[Function.comp_def]
theorem jF {X:ap}{k:Nat}{q:aw}(h:q∈fO X k):q.1<60∧jl X k q.1=some q.2.1:=by
 unfold fO dk at h
 obtain⟨c,hc,hm⟩:=List.mem_filterMap.mp h
 cases hs:cN (X.ses k) (fun c=>aN (X.hist c) (X.ses k).snap) c with
 |none=>rw[hs] at hm;cases hm
 |some p=>
  rw[hs] at hm
  simp only[Option.map_some,Option.some.injEq] at hm
  rw[←hm]
  have:=on X k c
  rw[hs] at this
  exact⟨by simpa using hc,this.symm⟩
theorem BD (X:ap)(k:Nat):oI X k=ch ((fO X k).map fun q=>cA q.1 q.2.1):=by
 unfold oI fO dk
 rw[List.map_filterMap]
 congr 2
 funext c
 rw[←on X k c]
 cases cN (X.ses k) (fun c=>aN (X.hist c) (X.ses k).snap) c <;> rfl
theorem tx (X:ap)(k:Nat):(fO X k).length≤60:=iC _ _ _
theorem rP (x:Nat)(X:ap)(kv:Nat→Value)(k:Nat)(w:World)(hk:k<8)(h:jv w x X kv)(hR:oE w X kv)(hl:∀ c,c<60→(X.hist c).length≤9223372036854775807):
  Calls Tryz.prog 49 #[.pointer (some ⟨x,0,none⟩),.pointer (some ⟨x,3+k*244,none⟩)] w fun e w'=>∃ v,e=.returned v∧w'.ownsRow w.heap.size 114 4 v (fO X k).length (bG (fO X k))∧w.grownBy w' none:=by
 have c1:=(h.ses k hk).snap
 have hxl:=h.lt
 obtain⟨sn,hsn⟩:∃ sn,sn=(X.ses k).snap:=⟨_,rfl⟩
 rw[←hsn] at c1
 have HAT:Hid (∀ W,w.grownBy W none→Calls Tryz.prog 65 #[.pointer (some ⟨x,1955,none⟩),.int .i64 sn] W fun e w'=>(∃ sc,e=.returned (.agg sc)∧jg sc 60 (fun c=>aN (X.hist c) sn))∧W.grownBy w' none):=af (fun W hg=>yR x 1955 X kv sn W (h.grown hg).store (fun c hc=>jw hg (hR c hc)) hl)
 have HSV:Hid (∀ W sc,w.grownBy W none→jg sc 60 (fun c=>aN (X.hist c) sn)→Calls Tryz.prog 83 #[.pointer (some ⟨x,3+k*244,none⟩),.agg sc] W fun e w'=>∃ v,e=.returned v∧w'.ownsRow w.heap.size 114 4 v (fO X k).length (bG (fO X k))∧W.grownBy w' none):=af (fun W sc hg hsc=>by
  have:=r9 x (3+k*244) (X.ses k) (fun c=>aN (X.hist c) sn) sc W ((h.grown hg).ses k hk) hsc
  rw[hsn] at this
  refine this.mono ?_
  rintro e w' ⟨v,rfl,ho,hg'⟩
  exact⟨v,rfl,bP ho hg.size,hg'⟩)
 obtain⟨hz,hzs⟩:=zero_of_info Tryz.zinfo139
 obtain⟨z,hzz⟩:∃ z,z=iP:=⟨_,rfl⟩
 have hzsz:Hid (z.size=180):=af (by rw[hzz];exact io)
 rw[←hzz] at hz
 have HZS:=af hzs
 clear h hR hl hzz hzs hsn
 have hxz:x≠w.heap.size:=by omega
 obtain⟨F,hF⟩:∃ F,F=fO X k:=⟨_,rfl⟩
 rw[←hF] at HSV ⊢
 clear hF
 go_enter Tryz.func49,Tryz.ntmps49
 go_wp2_with fail
 have hne:=World.new_ne w ⟨x,3+k*244+1,none⟩ c1
 go_region_held3 (fun W=>W.cell? ⟨x,3+k*244+1,none⟩=some (.int .i64 sn)) (first|go_keep|(exact am hg1 (by assumption))|(rw[jC (by first|exact hxn1|exact hxz)];assumption)) (first
  |(go_at_call 65
    refine (HAT.out _ (by first|exact al (ag _ _) 1|exact al (ab (ag _ _) _) 1|exact ab (al (ag _ _) 1) _)).mono ?_
    rintro e w1 ⟨⟨sc,rfl,hsc⟩,hg1⟩
    obtain⟨cl,rfl⟩:∃ cl:List Value,sc=cl.toArray:=⟨sc.toList,by simp⟩
    have HSC:=af hsc
    have hcl:cl.length=180:=by have:=hsc.size;simpa using this
    have hinf:(Tryz.prog.info? 139).map (·.size)=some cl.length:=HZS.out.trans (by rw[hcl])
    have hone:∀ v∈cl,v.oneCell'=true:=fun v hv=>Array.all_eq_true_iff_forall_mem.1 hsc.one v (by simpa using hv)
    clear hsc
    have hxn1:x≠w1.heap.size:=by have:=hg1.size;simp at this;omega
    have HthA:(w1.alloc (.cells z 139)).there w1.heap.size 0 180:=so w1 hzsz.out
    try (have HthB:w1.there w.heap.size 0 180:=ly hzsz.out ((hg1.block w.heap.size (by simp) (by simp)).trans (heap_alloc_new _ _)))))
 ·have HR2:=af (World.rangeAt_setCells_same _ w1.heap.size 0 cl (by rw[hcl];exact HthA))
  have HG2:Hid (w.grownBy ((w1.alloc (.cells z 139)).setCells w1.heap.size 0 cl) none):=af (cy (by have:=hg1.size;simpa using this) _ _ (ab (cF (n:=1) hg1) _))
  clear HthA hg1
  generalize (w1.alloc (.cells z 139)).setCells w1.heap.size 0 cl=W2 at HR2 HG2 ⊢
  go_wp2_with (refine wpList_load_mid rfl 139 (.tmp 5) rfl w1.heap.size 0 rfl cl _ HR2.out Tryz.underlying139 rfl hinf ?_)
  go_at_call 83
  refine (HSV.out _ _ HG2.out HSC.out).mono ?_
  rintro e w3 ⟨v,rfl,hown,hg3⟩
  have HG3:=af hg3
  have HOW:=af hown
  clear hg3 hown
  go_wp2
  go_ret
  exact⟨v,rfl,HOW.out,ae HG2.out HG3.out⟩
 ·have HR2:=af (World.rangeAt_setCells_same _ w.heap.size 0 cl (by rw[hcl];exact HthB))
  have HG2:Hid (w.grownBy (w1.setCells w.heap.size 0 cl) none):=af (cy (Nat.le_refl _) _ _ (ae (by first|exact al (ab (ag _ _) _) 1|exact ab (al (ag _ _) 1) _) hg1))
  clear HthA HthB hg1
  generalize w1.setCells w.heap.size 0 cl=W2 at HR2 HG2 ⊢
  go_wp2_with (refine wpList_load_mid rfl 139 (.tmp 5) rfl w.heap.size 0 rfl cl _ HR2.out Tryz.underlying139 rfl hinf ?_)
  go_at_call 83
  refine (HSV.out _ _ HG2.out HSC.out).mono ?_
  rintro e w3 ⟨v,rfl,hown,hg3⟩
  have HG3:=af hg3
  have HOW:=af hown
  clear hg3 hown
  go_wp2
  go_ret
  exact⟨v,rfl,HOW.out,ae HG2.out HG3.out⟩
theorem tX (F:List aw)(j:Nat)(hj:j<F.length):ch ((F.take (j+1)).map fun q=>cA q.1 q.2.1)=ch ((F.take j).map fun q=>cA q.1 q.2.1)++cA F[j].1 F[j].2.1:=by
 rw[List.take_succ_eq_append_getElem hj,List.map_append]
 exact ic _ _
theorem jn (F:List aw):(ch (F.map fun q=>cA q.1 q.2.1)).size=3*F.length:=by
 have key:∀ (l:List aw) (z:ByteArray),((l.map fun q=>cA q.1 q.2.1).foldl (·++·) z).size=z.size+3*l.length:=by
  intro l
  induction l with
  |nil=>intro z;simp
  |cons q l ih=>
   intro z
   rw[List.map_cons,List.foldl_cons,ih,ByteArray.size_append,kz]
   simp
   omega
 have:=key F ByteArray.empty
 unfold ch
 rw[this]
 simp
theorem AR (x:Nat)(X:ap)(kv:Nat→Value)(n:Int)(w:World)(h:jv w x X kv)(hR:oE w X kv)(hl:∀ c,c<60→(X.hist c).length≤9223372036854775807)(hd:∀ k,aM X n=some k→ER (jl X k)):
  Calls Tryz.prog 25 #[.pointer (some ⟨x,0,none⟩),.int .i64 n] w fun e w'=>e=.returned (.tuple #[.string (fM X n).1,.int .i64 (fM X n).2])∧w.grownBy w' none:=by
 have HF:=af (eW x X n w h.ses)
 unfold fM
 cases hf:aM X n with
 |none=>
  rw[hf] at HF
  clear h hf hR hl hd
  go_enter Tryz.func25,Tryz.ntmps25
  go_wp2_with fail
  go_at_call 41
  refine HF.out.mono ?_
  rintro e w' ⟨rfl,rfl⟩
  simp only[dp]
  go_wp2
  go_ret2
  exact⟨rfl,ag _ _⟩
 |some k=>
  rw[hf] at HF
  have hk:k<8:=by
   unfold aM at hf
   split at hf
   ·cases hf
   ·exact (bx hf).1
  simp only[]
  have HSE:=af (rP x X kv k w hk h hR hl)
  have HD:Hid (∀ q∈fO X k,q.1<60∧0≤q.2.1∧q.2.1≤9):=af (fun q hq=>⟨(jF hq).1,hd k hf q.1 q.2.1 (jF hq).1 (jF hq).2⟩)
  have hFl:=tx X k
  rw[BD]
  obtain⟨F,hF⟩:∃ F,F=fO X k:=⟨_,rfl⟩
  rw[←hF] at HSE HD hFl ⊢
  clear h hf hR hl hd hF
  go_enter Tryz.func25,Tryz.ntmps25
  go_wp2_with fail
  go_at_call 41
  refine HF.out.mono ?_
  rintro e w' ⟨rfl,rfl⟩
  simp only[dp]
  go_wp2_with fail
  go_at_call 49
  refine HSE.out.mono ?_
  rintro e w1 ⟨v,rfl,hown,hg1⟩
  obtain⟨a,m,c,rfl⟩:=an hown
  have em:=ar hown
  subst em
  have HG1:=af hg1
  have HOW:=af hown
  clear HSE hg1 hown HF
  go_wp2_with fail
  go_loopw [8,21] (fun t i wr=>∃ j:Nat,j≤F.length∧i=.int .i64 j∧t=.string (ch ((F.take j).map fun q=>cA q.1 q.2.1))∧w1.grownBy wr none) (fun _ i _=>F.length - (intOf i).toNat)
  case atStart=>exact⟨0,Nat.zero_le _,rfl,rfl,ag _ _⟩
  case round=>
   obtain⟨j,hj,rfl,rfl,hg⟩:=hrel
   have HG:=af hg
   by_cases hlt:j<F.length
   ·have how:=aq HOW.out hg (fun g hg=>by cases hg)
    obtain⟨g,rfl,_,hgb,hgl,hcell⟩:=aE how (by omega)
    obtain⟨a0,a1,a2,a3⟩:=l8 F j hlt
    have d0:=hcell _ _ a0
    have d1:=hcell _ _ a1
    have d2:=hcell _ _ a2
    have d3:=hcell _ _ a3
    obtain⟨hb1,hb2,hb3⟩:=HD.out F[j] (List.getElem_mem hlt)
    have HTX:=af (fun W=>mO F[j].1 F[j].2.1 F[j].2.2 W hb1 hb2 hb3)
    unfold ld at HTX
    have HJ:=af (tX F j hlt)
    have hjs:(ch ((F.take j).map fun q=>cA q.1 q.2.1)).size≤180:=by rw[jn];simp;omega
    have hfz:=kz F[j].1 F[j].2.1
    obtain⟨jt,hjt⟩:∃ jt,jt=ch ((F.take j).map fun q=>cA q.1 q.2.1):=⟨_,rfl⟩
    obtain⟨ft,hft⟩:∃ ft,ft=cA F[j].1 F[j].2.1:=⟨_,rfl⟩
    rw[←hjt] at hjs HJ ⊢
    rw[←hft] at hfz HJ HTX
    have hgz:g≠wr.heap.size:=by omega
    obtain⟨c0,hc0⟩:∃ c0,c0=F[j].1:=⟨_,rfl⟩
    obtain⟨v0,hv0⟩:∃ v0,v0=F[j].2.1:=⟨_,rfl⟩
    obtain⟨t0,ht0⟩:∃ t0,t0=F[j].2.2:=⟨_,rfl⟩
    rw[←hc0] at d0 d1
    rw[←hv0] at d2
    rw[←ht0] at d3
    simp only[] at HTX
    rw[←hc0,←hv0,←ht0] at HTX
    clear hjt hft hcell a0 a1 a2 a3 hb1 hb2 hb3 hc0 hv0 ht0 how hg
    go_wp2_with fail
    go_at_call 50
    refine (HTX.out _).mono ?_
    rintro e w2 ⟨rfl,hg2⟩
    have HG2:=af hg2
    clear hg2
    go_wp2_with fail
    go_roundw
    case rel=>exact⟨j+1,by omega,by go_num,by rw[HJ.out],ae HG.out (ae (ab (ag _ _) _) HG2.out)⟩
    case measure=>simp[intOf];omega
   ·clear hg
    go_wp2
    go_ret2
    have e:F.take j=F:=List.take_of_length_le (by omega)
    rw[e]
    exact⟨rfl,ae HG1.out HG.out⟩
theorem jE {α:Type}{f:Nat→List α}(hf:∀ c,(f c).length=4):∀ n,((List.range n).flatMap f).length=n*4
 |0=>rfl
 |n+1=>by rw[List.range_succ,List.flatMap_append,List.length_append,jE hf n];simp[hf];omega
theorem kM {α:Type}{f:Nat→List α}(hf:∀ c,(f c).length=4){c j:Nat}(hj:j<4):∀ n,c<n→((List.range n).flatMap f)[c*4+j]?=(f c)[j]?
 |0,h=>by omega
 |n+1,h=>by
  rw[List.range_succ,List.flatMap_append]
  by_cases e:c=n
  ·subst e
   rw[List.getElem?_append_right (by rw[jE hf];omega),jE hf]
   simp
  ·rw[List.getElem?_append_left (by rw[jE hf];omega)]
   exact kM hf hj n (by omega)
def aZ (wr:Nat→PW)(tm:Nat→Int):List Value:=(List.range 60).flatMap fun c=>[.bool (iX (wr c)),.bool (gX (wr c)),.int .i64 (rq (wr c)),.int .i64 (tm c)]
def c8 (S:aJ):List Value:=.int .i64 S.num::.int .i64 S.snap::.int .i64 S.made::(aZ S.wr S.tm++[Fn S.mks])
theorem dX (wr:Nat→PW)(tm:Nat→Int):(aZ wr tm).length=240:=jE (fun _=>rfl) 60
theorem b6 (S:aJ):(c8 S).length=244:=by simp[c8,dX]
theorem dY (wr:Nat→PW)(tm:Nat→Int){c:Nat}(hc:c<60):(aZ wr tm)[c*4]?=some (.bool (iX (wr c)))∧(aZ wr tm)[c*4+1]?=some (.bool (gX (wr c)))∧(aZ wr tm)[c*4+2]?=some (.int .i64 (rq (wr c)))∧(aZ wr tm)[c*4+3]?=some (.int .i64 (tm c)):=
 ⟨kM (j:=0) (fun _=>rfl) (by omega) 60 hc,kM (j:=1) (fun _=>rfl) (by omega) 60 hc,kM (j:=2) (fun _=>rfl) (by omega) 60 hc,kM (j:=3) (fun _=>rfl) (by omega) 60 hc⟩
theorem sN (wr:Nat→PW)(tm:Nat→Int):∀ v∈aZ wr tm,v.oneCell'=true:=by
 intro v hv
 unfold aZ at hv
 rw[List.mem_flatMap] at hv
 obtain⟨c,_,h⟩:=hv
 simp at h
 rcases h with rfl|rfl|rfl|rfl <;> rfl
theorem km (S:aJ):∀ v∈c8 S,v.oneCell'=true:=by
 intro v hv
 unfold c8 at hv
 simp only[List.mem_cons,List.mem_append,List.not_mem_nil,or_false] at hv
 rcases hv with rfl|rfl|rfl|hv|rfl
 ·rfl
 ·rfl
 ·rfl
 ·exact sN _ _ v hv
 ·cases S.mks <;> rfl
theorem cJ.writes {w:World}{b o:Nat}{S:aJ}(h:cJ w b o S):w.rangeAt b (o+3) (aZ S.wr S.tm):=by
 intro j v hv
 have hj:j<240:=by
  have:=(List.getElem?_eq_some_iff.1 hv).1
  rw[dX] at this
  exact this
 obtain⟨a0,a1,a2,a3⟩:=dY S.wr S.tm (c:=j / 4) (by omega)
 have e:j=j / 4*4∨j=j / 4*4+1∨j=j / 4*4+2∨j=j / 4*4+3:=by omega
 rcases e with e|e|e|e
 ·rw[e,a0] at hv
  rw[e,←hv]
  exact h.made (j / 4) (by omega)
 ·rw[e,a1] at hv
  rw[e,←hv]
  exact h.filled (j / 4) (by omega)
 ·rw[e,a2] at hv
  rw[e,←hv]
  exact h.val (j / 4) (by omega)
 ·rw[e,a3] at hv
  rw[e,←hv]
  exact h.tm (j / 4) (by omega)
theorem cJ.range {w:World}{b o:Nat}{S:aJ}(h:cJ w b o S):w.rangeAt b o (c8 S):=by
 intro j v hv
 match j,hv with
 |0,hv=>
  simp[c8] at hv
  rw[←hv]
  exact h.num
 |1,hv=>
  simp[c8] at hv
  rw[←hv]
  exact h.snap
 |2,hv=>
  simp[c8] at hv
  rw[←hv]
  exact h.cnt
 |j+3,hv=>
  have hv':(aZ S.wr S.tm++[Fn S.mks])[j]?=some v:=by simpa only [c8,List.getElem?_cons_succ] using hv
  rw[show o+(j+3)=o+3+j by omega]
  by_cases hj:j<240
  ·rw[List.getElem?_append_left (by rw[dX];exact hj)] at hv'
   exact h.writes j v hv'
  ·rw[List.getElem?_append_right (by rw[dX];omega),dX] at hv'
   have e:j=240:=by
    have:=(List.getElem?_eq_some_iff.1 hv').1
    simp at this
    omega
   subst e
   simp at hv'
   rw[←hv']
   exact h.mks
theorem cJ.of {w:World}{b o:Nat}{S:aJ}(h:w.rangeAt b o (c8 S))(hk:S.ok):cJ w b o S:=by
 have hw:∀ j v,(aZ S.wr S.tm)[j]?=some v→w.cell? ⟨b,o+3+j,none⟩=some v:=fun j v hv=>by
  have hj:j<(aZ S.wr S.tm).length:=(List.getElem?_eq_some_iff.1 hv).1
  have:=h (j+3) v (by
   show (aZ S.wr S.tm++[Fn S.mks])[j]?=some v
   rw[List.getElem?_append_left hj]
   exact hv)
  rw[show o+(j+3)=o+3+j by omega] at this
  exact this
 exact⟨h 0 _ rfl,h 1 _ rfl,h 2 _ rfl,fun c hc=>hw _ _ (dY S.wr S.tm hc).1,fun c hc=>hw _ _ (dY S.wr S.tm hc).2.1,fun c hc=>hw _ _ (dY S.wr S.tm hc).2.2.1,fun c hc=>hw _ _ (dY S.wr S.tm hc).2.2.2,h 243 _ (by
  show (aZ S.wr S.tm++[Fn S.mks])[240]?=some (Fn S.mks)
  rw[List.getElem?_append_right (by rw[dX];omega),dX]
  rfl),hk⟩
theorem FA (n t:Int):(aJ.new n t).ok:=⟨Int.le_refl 0,rfl⟩
theorem tv:aJ.zero.ok:=⟨Int.le_refl 0,rfl⟩
theorem kB.setCells {w:World}{b a n:Nat}:∀ (vs:List Value) (o:Nat) {w':World},a≤o→o+vs.length≤a+n→kB w w' b a n→kB w (w'.setCells b o vs) b a n
 |[],_,_,_,_,h=>h
 |v::vs,o,_,h1,h2,h=>kB.setCells vs (o+1) (by omega) (by simp at h2;omega) (h.set h1 (by simp at h2;omega) v)
theorem jv.there {w:World}{x:Nat}{X:ap}{kv:Nat→Value}(h:jv w x X kv){k:Nat}(hk:k<8):w.there x (3+k*244) 244:=by
 intro j hj
 obtain⟨cs,hb⟩:=h.block
 refine⟨?_,ai hb _⟩
 exact World.rangeAt.isSome (h.ses k hk).range j (by rw[b6];exact hj)
theorem jv.lay {w:World}{x:Nat}{X:ap}{kv:Nat→Value}(h:jv w x X kv){k:Nat}(hk:k<8)(S':aJ)(hk':S'.ok):jv (w.setCells x (3+k*244) (c8 S')) x (X.setSes k S') kv∧Fr [x] w (w.setCells x (3+k*244) (c8 S')):=by
 have hc:kB w (w.setCells x (3+k*244) (c8 S')) x (3+k*244) 244:=kB.setCells _ _ (Nat.le_refl _) (by rw[b6];omega) (kB.refl _ _ _ _)
 exact⟨h.setSes hk (.of (World.rangeAt_setCells_same _ _ _ _ (by rw[b6];exact h.there hk)) hk') hc,hc.fr⟩
theorem iQ:Tryz.zeroCells82.toList=c8 .zero:=by kernel_rfl
theorem gd {P:Program}(w:World)(b o:Nat)(cs:List Value)(ht:w.there b o cs.length)(h1:∀ v∈cs,v.oneCell'=true):(storeCells ⟨b,o,none⟩ cs 0).run P w=.ok () (w.setCells b o cs):=by
 have:=run_storeCells_cells (P:=P) b o cs 0 w (fun j hj=>by simpa using (ht j hj).1) (fun j hj=>by simpa using (ht j hj).2) h1
 simpa using this
theorem xV (x:Nat)(X:ap)(kv:Nat→Value)(n:Int)(w:World)(h:jv w x X kv):
  Calls Tryz.prog 27 #[.pointer (some ⟨x,0,none⟩),.int .i64 n] w fun e w'=>e=.returned (.int .i64 (aY X n).1)∧gN x (aY X n).2 kv w w':=by
 have HF:=af (eW x X n w h.ses)
 have HP:=af h
 unfold aY
 cases hf:aM X n with
 |none=>
  rw[hf] at HF
  clear h hf
  go_enter Tryz.func27,Tryz.ntmps27
  go_wp2_with fail
  go_at_call 41
  refine HF.out.mono ?_
  rintro e w' ⟨rfl,rfl⟩
  simp only[dp]
  go_wp2
  go_ret
  exact⟨rfl,gN.same HP.out⟩
 |some k=>
  rw[hf] at HF
  have hk:k<8:=by
   unfold aM at hf
   split at hf
   ·cases hf
   ·exact (bx hf).1
  simp only[]
  have HL:=af (h.lay hk .zero tv)
  have hst:=gd (P:=Tryz.prog) w x (3+k*244) Tryz.zeroCells82.toList (by rw[iQ,b6];exact h.there hk) (by rw[iQ];exact km _)
  rw[←iQ] at HL
  clear h hf
  go_enter Tryz.func27,Tryz.ntmps27
  go_wp2_with fail
  go_at_call 41
  refine HF.out.mono ?_
  rintro e w' ⟨rfl,rfl⟩
  simp only[dp]
  go_wp2_with fail
  go_ret
  exact⟨rfl,HL.out⟩
theorem Bx (x:Nat)(X:ap)(kv:Nat→Value)(w:World)(h:jv w x X kv)(ho:0≤X.opened∧X.opened<9223372036854775807):
  Calls Tryz.prog 19 #[.pointer (some ⟨x,0,none⟩)] w fun e w'=>e=.returned (.tuple #[.int .i64 (a8 X).1.1,.int .i64 (a8 X).1.2])∧gN x (a8 X).2 kv w w':=by
 have HF:=af (mH x X 0 w h.ses)
 have HP:=af h
 unfold a8
 cases hf:ba X 0 with
 |none=>
  rw[hf] at HF
  clear h hf ho
  go_enter Tryz.func19,Tryz.ntmps19
  go_wp2_with fail
  go_at_call 40
  refine HF.out.mono ?_
  rintro e w' ⟨rfl,rfl⟩
  simp only[dp]
  go_wp2
  go_ret2
  exact⟨rfl,gN.same HP.out⟩
 |some k=>
  rw[hf] at HF
  have hk:k<8:=(bx hf).1
  simp only[]
  obtain⟨cs,hb⟩:=h.block
  have c2:=h.opened
  have z2:=ai hb 2
  have c3:=h.store.latest
  have hch:kB w (w.setCell ⟨x,2,none⟩ (.int .i64 (X.opened+1))).drew x 2 1:=((kB.refl w x 2 1).set (by omega) (by omega) _).drewN 1
  have hP1:jv (w.setCell ⟨x,2,none⟩ (.int .i64 (X.opened+1))).drew x { X with opened:=X.opened+1 } kv:=by
   refine⟨hch.blk hb,(hch.cell _ (by omega)).trans h.rules,(hch.cell _ (by omega)).trans h.room,?_,fun j hj=>(h.ses j hj).other hch (by omega),?_⟩
   ·show World.cell? (World.setCell _ _ _) _=_
    rw[World.cell?_setCell_same _ _ _ h.opened]
   ·have:=h.store.other hch (by omega)
    exact⟨this.latest,this.last,this.kept⟩
  have hL:(Tryz.zeroCells82.toList.set 0 (.int .i64 (X.opened+1))).set 1 (.int .i64 X.latest)=c8 (.new (X.opened+1) X.latest):=by rw[iQ];rfl
  have hlay:=hP1.lay hk (.new (X.opened+1) X.latest) (FA _ _)
  have hst:=gd (P:=Tryz.prog) (w.setCell ⟨x,2,none⟩ (.int .i64 (X.opened+1))).drew x (3+k*244) ((Tryz.zeroCells82.toList.set 0 (.int .i64 (X.opened+1))).set 1 (.int .i64 X.latest)) (by rw[hL,b6];exact hP1.there hk) (by rw[hL];exact km _)
  have c4:((w.setCell ⟨x,2,none⟩ (.int .i64 (X.opened+1))).drew.setCells x (3+k*244) ((Tryz.zeroCells82.toList.set 0 (.int .i64 (X.opened+1))).set 1 (.int .i64 X.latest))).cell? ⟨x,2,none⟩=some (.int .i64 (X.opened+1)):=by rw[hL];exact hlay.1.opened
  rw[←hL] at hlay
  have HL:Hid (gN x { X with opened:=X.opened+1,ses:=cI X.ses k (.new (X.opened+1) X.latest) } kv w ((w.setCell ⟨x,2,none⟩ (.int .i64 (X.opened+1))).drew.setCells x (3+k*244) ((Tryz.zeroCells82.toList.set 0 (.int .i64 (X.opened+1))).set 1 (.int .i64 X.latest)))):=af ⟨hlay.1,hch.fr.trans hlay.2⟩
  clear hlay hL hP1 hch
  obtain⟨op,hop⟩:∃ op,op=X.opened:=⟨_,rfl⟩
  obtain⟨lt,hlt⟩:∃ lt,lt=X.latest:=⟨_,rfl⟩
  rw[←hop] at c2 ho hst c4 HL ⊢
  rw[←hlt] at c3 hst c4 HL ⊢
  obtain⟨ho1,ho2⟩:=ho
  clear h hf hb hop hlt
  go_enter Tryz.func19,Tryz.ntmps19
  go_wp2_with fail
  go_at_call 40
  refine HF.out.mono ?_
  rintro e w' ⟨rfl,rfl⟩
  simp only[dp]
  go_wp2_with fail
  go_region
  all_goals go_wp2_with fail
  all_goals go_ret2
  all_goals exact⟨rfl,HL.out⟩
def ig (v:Value)(h:List (Int×Option Int)):eZ:=bp 138 3 v h.length (cu h)
theorem ig.framed (v:Value)(h:List (Int×Option Int)):bU (ig v h):=bp.framed _ _ _ _ _
theorem ig.within (v:Value)(h:List (Int×Option Int)):bV (ig v h):=bp.within _ _ _ _ _
def oO (kv:Nat→Value)(x:Nat)(X:ap):eZ:=fun w f=>jv w x X kv∧∃ f2,aB ig ((List.range 60).map kv) ((List.range 60).map X.hist) w f2∧f=x::f2
def aV (x:Nat)(X:ap):eZ:=fun w f=>∃ kv,oO kv x X w f
theorem yH {w w':World}{S:List Nat}(h:Fr S w w'){b:Nat}(hb:b<w.heap.size)(hs:b∉S)(i:Nat):w'.cell? ⟨b,i,none⟩=w.cell? ⟨b,i,none⟩:=by simp only[World.cell?,h.block b hb hs]
theorem jv.fr {w w':World}{x:Nat}{X:ap}{kv:Nat→Value}{S:List Nat}(h:jv w x X kv)(hf:Fr S w w')(hs:x∉S):jv w' x X kv:=by
 have hl:=h.lt
 obtain⟨cs,hb⟩:=h.block
 have e:=yH hf hl hs
 exact⟨⟨cs,(hf.block x hl hs).trans hb⟩,(e _).trans h.rules,(e _).trans h.room,(e _).trans h.opened,fun k hk=>(h.ses k hk).fr hf hl hs,⟨(e _).trans h.store.latest,fun c hc=>(e _).trans (h.store.last c hc),fun c hc=>(e _).trans (h.store.kept c hc)⟩⟩
theorem oO.framed (kv:Nat→Value)(x:Nat)(X:ap):bU (oO kv x X):=by
 rintro S w w' f ⟨h1,f2,h2,rfl⟩ hf hs
 exact⟨h1.fr hf (hs x (by simp)),f2,aB.framed ig.framed _ _ h2 hf (fun g hg=>hs g (by simp[hg])),rfl⟩
theorem aV.framed (x:Nat)(X:ap):bU (aV x X):=by
 rintro S w w' f ⟨kv,h⟩ hf hs
 exact⟨kv,oO.framed kv x X h hf hs⟩
theorem aV.within (x:Nat)(X:ap):bV (aV x X):=by
 rintro w f ⟨kv,h1,f2,h2,rfl⟩ g hg
 rcases List.mem_cons.mp hg with rfl|hg
 ·exact h1.lt
 ·exact aB.within ig.within _ _ h2 g hg
theorem oO.rows {kv:Nat→Value}{x:Nat}{X:ap}{w:World}{f:List Nat}(h:oO kv x X w f):oE w X kv:=by
 obtain⟨_,f2,h2,_⟩:=h
 intro c hc
 obtain⟨g,h3,_⟩:=aB.get h2 c (by simpa using hc) (by simpa using hc)
 simp only[List.getElem_map,List.getElem_range] at h3
 exact h3.1
def cO (P:eZ)(f:List Nat)(w w':World):Prop:=∃ f',P w' f'∧f'.Nodup∧(∀ x∈f',x∈f∨w.heap.size≤x)∧Fr f w w'
theorem gN.to {x:Nat}{X X':ap}{kv:Nat→Value}{w w':World}{f:List Nat}(h:oO kv x X w f)(hn:f.Nodup)(hh:X'.hist=X.hist)(hp:gN x X' kv w w'):cO (aV x X') f w w':=by
 obtain⟨h1,f2,h2,rfl⟩:=h
 rw[List.nodup_cons] at hn
 refine⟨x::f2,⟨kv,hp.1,f2,?_,rfl⟩,by rw[List.nodup_cons];exact hn,fun k hk=>.inl hk,hp.2.mono (fun k hk=>.inl (by simp at hk;simp[hk]))⟩
 rw[hh]
 exact aB.framed ig.framed _ _ h2 hp.2 (fun k hk hs=>by simp at hs;exact hn.1 (hs▸hk))
theorem cO.before {P:eZ}{f:List Nat}{w w0 w':World}(h:cO P f w0 w')(hf:Fr [] w w0):cO P f w w':=by
 obtain⟨f',a,n,s,r⟩:=h
 refine⟨f',a,n,fun k hk=>?_,(hf.mono (fun k hk=>by cases hk)).trans r⟩
 rcases s k hk with h|h
 ·exact .inl h
 ·exact .inr (Nat.le_trans hf.size h)
theorem bD {w0 w1:World}{f:List Nat}(hf:Fr f w0 w1){b i:Nat}{v:Value}(h:w0.cell? ⟨b,i,none⟩=some v)(hn:b∉f):w1.cell? ⟨b,i,none⟩=some v:=by
 rw[yH hf (World.block_lt_of_cell? w0 _ h) hn];exact h
theorem aA (w:World)(o:Obj):Fr [] w (w.alloc o):=(Fr.refl [] w).alloc o
theorem au {w w':World}(h:Fr [] w w'):Fr [] w w'.drew:=h.drewN 1
theorem cO.refl {x:Nat}{X:ap}{f:List Nat}{w w':World}(h:aV x X w f)(hn:f.Nodup)(hf:Fr [] w w'):cO (aV x X) f w w':=⟨f,aV.framed _ _ h hf (by simp),hn,fun _ hx=>.inl hx,hf.mono (fun k hk=>by cases hk)⟩
theorem cd {w:World}{cs:Array Value}{t:TypeId}{j:Nat}{v:Value}(h:cs[j]?=some v):(w.alloc (.cells cs t)).cell? ⟨w.heap.size,j,none⟩=some v:=by rw[cell_of_row _ _ _ _ _ _ (heap_alloc_new w _)];exact h
theorem aC {w w0:World}(hf:Fr [] w w0){b i:Nat}{v:Value}(h:w.cell? ⟨b,i,none⟩=some v):w0.cell? ⟨b,i,none⟩=some v:=bD hf h (by simp)
end Go.Proofs.YthlhbjnkohinmaaGreat
