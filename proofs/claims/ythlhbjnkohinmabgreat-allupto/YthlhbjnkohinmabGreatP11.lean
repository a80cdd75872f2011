import Derived.Test.YthlhbjnkohinmabGreatP10
import Derived.Test.YthlhbjnkohinmabGreatP05
import Derived.Deep.RegionHeld3
namespace Go.Proofs.YthlhbjnkohinmabGreat
set_option maxRecDepth 100000
set_option maxHeartbeats 8000000
open Go.RowKit
def cM (S:aK)(f:Nat→Int×Option Int)(c:Nat):Option (Int×Int):=match S.wr c with
 |some v=>v.map fun x=>(x,S.tm c)
 |none=>(f c).2.map fun x=>(x,(f c).1)
def dj (S:aK)(f:Nat→Int×Option Int)(n:Nat):List aw:=(List.range n).filterMap fun c=>(cM S f c).map fun p=>(c,p.1,p.2)
theorem zW (S:aK)(f:Nat→Int×Option Int)(n:Nat):dj S f (n+1)=dj S f n++((cM S f n).map fun p=>(n,p.1,p.2)).toList:=by
 unfold dj
 rw[List.range_succ,List.filterMap_append]
 cases h:cM S f n <;> simp[h]
theorem iu (S:aK)(f:Nat→Int×Option Int)(n:Nat):(dj S f n).length≤n:=by
 have:=List.length_filterMap_le (fun c=>(cM S f c).map fun p=>((c,p.1,p.2):aw)) (List.range n)
 simpa [dj] using this
theorem kt (c:Nat)(v:Int):(cz c v).size=3:=rfl
def bE (l:List aw):List Value:=l.flatMap fun q=>[.int .i64 ((q.1:Int) / 10),.int .i64 ((q.1:Int) % 10),.int .i64 q.2.1,.int .i64 q.2.2]
theorem nD (l:List aw)(q:aw):bE (l++[q])=bE l++[.int .i64 ((q.1:Int) / 10),.int .i64 ((q.1:Int) % 10),.int .i64 q.2.1,.int .i64 q.2.2]:=by simp[bE]
theorem lY:∀ (l:List aw)(k:Nat)(hk:k<l.length) ,(bE l)[k*4]?=some (.int .i64 ((l[k].1:Int) / 10))∧(bE l)[k*4+1]?=some (.int .i64 ((l[k].1:Int) % 10))∧(bE l)[k*4+2]?=some (.int .i64 l[k].2.1)∧(bE l)[k*4+3]?=some (.int .i64 l[k].2.2)
 |p::l,0,_=>⟨rfl,rfl,rfl,rfl⟩
 |p::l,k+1,hk=>by
  obtain⟨h1,h2,h3,h4⟩:=lY l k (by simpa using hk)
  have e:bE (p::l)=.int .i64 ((p.1:Int) / 10)::.int .i64 ((p.1:Int) % 10)::.int .i64 p.2.1::.int .i64 p.2.2::bE l:=rfl
  rw[e,show (k+1)*4=k*4+1+1+1+1 by omega]
  exact⟨by simpa using h1,by simpa using h2,by simpa using h3,by simpa using h4⟩
theorem Tryz.info114:(Tryz.prog.info? 114).map (fun i=>(i.zero,i.size,i.bytes))=some (some (.agg #[.int .i64 0,.int .i64 0,.int .i64 0,.int .i64 0]),4,32):=by kernel_rfl
theorem sI (b o:Nat)(S:aK)(f:Nat→Int×Option Int)(sc:Array Value)(w:World)(h:cJ w b o S)(hsc:jg sc 60 f):
  Calls Tryz.prog 77 #[.pointer (some ⟨b,o,none⟩),.agg sc] w fun e w'=>∃ v,e=.returned v∧w'.ownsRow w.heap.size 114 4 v (dj S f 60).length (bE (dj S f 60))∧w.grownBy w' none:=by
 obtain⟨i0,hi0,hz0,hz1,hz2⟩:=info_parts Tryz.info114
 have hbl:b<w.heap.size:=World.block_lt_of_cell? w _ h.num
 have HS:=af h
 have HSC:=af hsc
 clear h hsc
 go_enter Tryz.func77,Tryz.ntmps77
 go_wp2_with fail
 go_loopw [5,6] (fun t i wr=>∃ k:Nat,k≤60∧i=.int .i64 k∧wr.ownsRow w.heap.size 114 4 t (dj S f k).length (bE (dj S f k))∧w.grownBy wr none∧wr.heap[w.heap.size]?=some (.cells sc 138 (0,0))) (fun _ i _=>60 - (intOf i).toNat)
 case atStart=>exact⟨0,by omega,rfl,World.ownsRow_nil _ _ _ _,ab (ag _ _) _,heap_alloc_new w _⟩
 case round=>
  obtain⟨k,hk,rfl,hown,hg,hb0⟩:=hrel
  have HG:=af hg
  have HB0:=af hb0
  have HOW:=af hown
  by_cases hlt:k<60
  ·have d0:wr.cell? ⟨w.heap.size,k*3,none⟩=some (.int .i64 (f k).1):=by rw[cell_of_row _ _ _ _ _ _ hb0];exact HSC.out.stamp k hlt
   have d1:wr.cell? ⟨w.heap.size,k*3+1,none⟩=some (.bool (f k).2.isSome):=by rw[cell_of_row _ _ _ _ _ _ hb0];exact HSC.out.fill k hlt
   have d2:wr.cell? ⟨w.heap.size,k*3+2,none⟩=some (.int .i64 ((f k).2.getD 0)):=by rw[cell_of_row _ _ _ _ _ _ hb0];exact HSC.out.val k hlt
   have m0:=am hg (HS.out.made k hlt)
   have m1:=am hg (HS.out.filled k hlt)
   have m2:=am hg (HS.out.val k hlt)
   have m3:=am hg (HS.out.tm k hlt)
   have hsz:=hg.size
   have hl0:=lt_of_block hb0
   have z1:b≠wr.heap.size:=by omega
   have z2:w.heap.size≠wr.heap.size:=by omega
   have z3:b<wr.heap.size:=by omega
   have z4:w.heap.size<wr.heap.size:=hl0
   have HJ:=af (zW S f k)
   have hjl:=iu S f k
   obtain⟨f0,hf0⟩:∃ f0,f0=(f k).1:=⟨_,rfl⟩
   obtain⟨f1,hf1⟩:∃ f1,f1=(f k).2.isSome:=⟨_,rfl⟩
   obtain⟨f2,hf2⟩:∃ f2,f2=(f k).2.getD 0:=⟨_,rfl⟩
   obtain⟨tk,htk⟩:∃ tk,tk=S.tm k:=⟨_,rfl⟩
   rw[←hf0] at d0
   rw[←hf1] at d1
   rw[←hf2] at d2
   rw[←htk] at m3
   have HF0:=af hf0
   have HF1:=af hf1
   have HF2:=af hf2
   have HTK:=af htk
   obtain⟨a,m,c,rfl⟩:=an hown
   have em:=ar hown
   subst em
   clear hg hb0 hl0 hf0 hf1 hf2 htk hown
   have hskip:Hid (cM S f k=none→∀ W,wr.grownBy W none→W.ownsRow w.heap.size 114 4 (.slice a (dj S f k).length c) (dj S f (k+1)).length (bE (dj S f (k+1)))∧w.grownBy W none∧W.heap[w.heap.size]?=some (.cells sc 138 (0,0))):=af (fun e W hW=>⟨by
    have:=aq HOW.out hW (fun g hg=>by cases hg)
    rw[HJ.out,e];simpa using this,ae HG.out hW,(hW.block _ (lt_of_block HB0.out) (by simp)).trans HB0.out⟩)
   have hadd:Hid (∀ v t,cM S f k=some (v,t)→dj S f (k+1)=dj S f k++[(k,v,t)]):=af (fun v t e=>by rw[HJ.out,e];rfl)
   have HNF:Hid (∀ (v t:Int) (W:World),Calls Tryz.prog 103 #[.int .i64 k,.int .i64 v,.int .i64 t] W fun e w'=>e=.returned (.agg #[.int .i64 ((k:Int) / 10),.int .i64 ((k:Int) % 10),.int .i64 v,.int .i64 t])∧W.grownBy w' none):=af (fun v t W=>ut k v t W hlt)
   have HFIN:Hid (∀ (v t:Int) (W w3:World) (v':Value),cM S f k=some (v,t)→wr.grownBy W none→w3.ownsRow w.heap.size 114 4 v' ((dj S f k).length+1) (bE (dj S f k)++[.int .i64 ((k:Int) / 10),.int .i64 ((k:Int) % 10),.int .i64 v,.int .i64 t])→W.grownBy w3 (Value.slice a (dj S f k).length c).ownBlock→w3.ownsRow w.heap.size 114 4 v' (dj S f (k+1)).length (bE (dj S f (k+1)))∧w.grownBy w3 none∧w3.heap[w.heap.size]?=some (.cells sc 138 (0,0))):=af (by
    intro v t W w3 v' e hW how hg3
    refine⟨?_,aL (ae HG.out hW) hg3 (fun g hg=>(HOW.out.lt g hg).1),?_⟩
    ·rw[hadd.out v t e,nD];simpa using how
    ·have h1:=(hW.block _ (lt_of_block HB0.out) (by simp)).trans HB0.out
     refine (hg3.block _ (lt_of_block h1) ?_).trans h1
     intro e2
     exact aS HOW.out HB0.out (by decide) e2.symm)
   have HOWG:Hid (∀ W,wr.grownBy W none→W.ownsRow w.heap.size 114 4 (.slice a (dj S f k).length c) (dj S f k).length (bE (dj S f k))):=af (fun W hW=>aq HOW.out hW (fun g hg=>by cases hg))
   obtain⟨nl,hnl⟩:∃ nl,nl=(dj S f k).length:=⟨_,rfl⟩
   obtain⟨xs,hxs⟩:∃ xs,xs=bE (dj S f k):=⟨_,rfl⟩
   rw[←hnl] at hskip HFIN HOWG hjl ⊢
   rw[←hxs] at HFIN HOWG
   clear hnl hxs HJ hadd
   cases hw:S.wr k with
   |none=>
    rw[hw] at m0 m1 m2
    simp only[iU,gW,re,Option.isSome_none] at m0 m1 m2
    have hsw:cM S f k=(f k).2.map fun x=>(x,(f k).1):=by unfold cM;rw[hw]
    cases hfk:(f k).2 with
    |none=>
     have e0:f1=false:=by rw[HF1.out,hfk];rfl
     subst e0
     have HSK:=af (hskip.out (by rw[hsw,hfk];rfl))
     clear hw hsw hfk hskip HFIN HF0 HF1 HF2 HTK HNF HOWG
     go_wp2_with fail
     go_roundw
     case rel=>
      obtain⟨q1,q2,q3⟩:=HSK.out _ (ab (ag wr none) _)
      exact⟨k+1,by omega,by go_num,q1,q2,q3⟩
     case measure=>simp[intOf];omega
    |some v=>
     have e0:f1=true:=by rw[HF1.out,hfk];rfl
     have e1:f2=v:=by rw[HF2.out,hfk];rfl
     subst e0
     subst e1
     have HFI:=af (fun W w3 v'=>HFIN.out f2 f0 W w3 v' (by rw[hsw,hfk,HF0.out];rfl))
     clear hw hsw hfk hskip HFIN HF0 HF1 HF2 HTK
     go_wp2_with fail
     go_at_call 103
     refine (HNF.out _ _ _).mono ?_
     rintro e w1 ⟨rfl,hg1⟩
     have hgW:=ae (ab (ag wr none) (.cells #[.bool true,.int .i64 f2] 77)) hg1
     have HGW:=af hgW
     have how1:=HOWG.out _ (ab hgW (.cells #[.int .i64 ((k:Int) / 10),.int .i64 ((k:Int) % 10),.int .i64 f2,.int .i64 f0] 114))
     have hsw1:w.heap.size≤w1.heap.size:=by have:=hgW.size;omega
     clear hgW hg1 HOWG
     go_wp2_with (first|(at_builtin;refine wpList_append_own _ rfl (.tmp 44) (.tmp 50) 111 rfl (w.heap.size) 114 i0 (.agg #[.int .i64 0,.int .i64 0,.int .i64 0,.int .i64 0]) 4 32 Tryz.underlying111 hi0 hz0 hz1 hz2 rfl (by decide) _ _ _ rfl how1 _ 1 1 [.int .i64 ((k:Int) / 10),.int .i64 ((k:Int) % 10),.int .i64 f2,.int .i64 f0] rfl rfl ?c1 ?c2 ?c3 ?c4 ?c5 ?_))
     case c1=>intro j u hj;exact bj hj
     case c2=>intro u hu;simp at hu;rcases hu with h|h|h|h <;> subst h <;> rfl
     case c3=>unfold maxLen;omega
     case c4=>omega
     case c5=>simp;omega
     ·intro v' w3 hown3 hg3 _
      have HO3:=af hown3
      have HG3:=af hg3
      clear hown3 hg3
      go_wp2_with fail
      go_roundw
      case rel=>
       obtain⟨q1,q2,q3⟩:=HFI.out _ _ _ (ab HGW.out _) HO3.out HG3.out
       exact⟨k+1,by omega,by go_num,q1,q2,q3⟩
      case measure=>simp[intOf];omega
   |some p=>
    rw[hw] at m0 m1 m2
    have hsw:cM S f k=p.map fun x=>(x,S.tm k):=by unfold cM;rw[hw]
    cases p with
    |none=>
     simp only[iU,gW,re,Option.isSome_some] at m0 m1 m2
     have HSK:=af (hskip.out hsw)
     clear hw hsw hskip HFIN HF0 HF1 HF2 HTK HNF HOWG
     go_wp2_with fail
     go_roundw
     case rel=>
      obtain⟨q1,q2,q3⟩:=HSK.out _ (ab (ag wr none) _)
      exact⟨k+1,by omega,by go_num,q1,q2,q3⟩
     case measure=>simp[intOf];omega
    |some v=>
     simp only[iU,gW,re,Option.isSome_some] at m0 m1 m2
     have HFI:=af (fun W w3 v'=>HFIN.out v tk W w3 v' (by rw[hsw,HTK.out];rfl))
     clear hw hsw hskip HFIN HF0 HF1 HF2 HTK
     go_wp2_with fail
     go_at_call 103
     refine (HNF.out _ _ _).mono ?_
     rintro e w1 ⟨rfl,hg1⟩
     have hgW:=ae (ab (ag wr none) (.cells #[.bool true,.int .i64 v] 77)) hg1
     have HGW:=af hgW
     have how1:=HOWG.out _ (ab hgW (.cells #[.int .i64 ((k:Int) / 10),.int .i64 ((k:Int) % 10),.int .i64 v,.int .i64 tk] 114))
     have hsw1:w.heap.size≤w1.heap.size:=by have:=hgW.size;omega
     clear hgW hg1 HOWG
     go_wp2_with (first|(at_builtin;refine wpList_append_own _ rfl (.tmp 44) (.tmp 50) 111 rfl (w.heap.size) 114 i0 (.agg #[.int .i64 0,.int .i64 0,.int .i64 0,.int .i64 0]) 4 32 Tryz.underlying111 hi0 hz0 hz1 hz2 rfl (by decide) _ _ _ rfl how1 _ 1 1 [.int .i64 ((k:Int) / 10),.int .i64 ((k:Int) % 10),.int .i64 v,.int .i64 tk] rfl rfl ?c1 ?c2 ?c3 ?c4 ?c5 ?_))
     case c1=>intro j u hj;exact bj hj
     case c2=>intro u hu;simp at hu;rcases hu with h|h|h|h <;> subst h <;> rfl
     case c3=>unfold maxLen;omega
     case c4=>omega
     case c5=>simp;omega
     ·intro v' w3 hown3 hg3 _
      have HO3:=af hown3
      have HG3:=af hg3
      clear hown3 hg3
      go_wp2_with fail
      go_roundw
      case rel=>
       obtain⟨q1,q2,q3⟩:=HFI.out _ _ _ (ab HGW.out _) HO3.out HG3.out
       exact⟨k+1,by omega,by go_num,q1,q2,q3⟩
      case measure=>simp[intOf];omega
  ·have hk60:k=60:=by omega
   subst hk60
   clear hg hb0
   go_wp2_with fail
   go_ret
   exact⟨_,rfl,HOW.out,HG.out⟩
structure jq (w:World)(x:Nat)(X:ap)(kv:Nat→Value):Prop where
 block:∃ cs,w.heap[x]?=some (.cells cs 94 (0,0))
 rules:w.cell? ⟨x,0,none⟩=some X.src.1.1
 room:w.cell? ⟨x,1,none⟩=some (.int .i64 X.room)
 opened:w.cell? ⟨x,2,none⟩=some (.int .i64 X.opened)
 ses:ye w x X
 store:jl w x 1955 X kv
theorem jq.lt {w:World}{x:Nat}{X:ap}{kv:Nat→Value}(h:jq w x X kv):x<w.heap.size:=by
 obtain⟨cs,hb⟩:=h.block
 exact lt_of_block hb
theorem jl.other {w w':World}{b o a n:Nat}{X:ap}{kv:Nat→Value}(h:jl w b o X kv)(hc:kA w w' b a n)(hd:o+121≤a∨a+n≤o):jl w' b o X kv:=
 ⟨(hc.cell _ (by omega)).trans h.latest,fun c hl=>(hc.cell _ (by omega)).trans (h.last c hl),fun c hl=>(hc.cell _ (by omega)).trans (h.kept c hl)⟩
theorem jq.setSes {w w':World}{x:Nat}{X:ap}{kv:Nat→Value}(h:jq w x X kv){k:Nat}(hk:k<8){S':aK}(hs:cJ w' x (3+k*244) S')(hc:kA w w' x (3+k*244) 244):jq w' x (X.setSes k S') kv:=by
 obtain⟨cs,hb⟩:=h.block
 refine⟨hc.blk hb,(hc.cell _ (by omega)).trans h.rules,(hc.cell _ (by omega)).trans h.room,(hc.cell _ (by omega)).trans h.opened,?_,?_⟩
 ·intro j hj
  show cJ w' x (3+j*244) (cI X.ses k S' j)
  by_cases e:j=k
  ·subst e;rw[aW];exact hs
  ·rw[bD _ _ _ e]
   exact (h.ses j hj).other hc (by omega)
 ·have:=h.store.other hc (by omega)
  exact⟨this.latest,this.last,this.kept⟩
def gN (x:Nat)(X':ap)(kv:Nat→Value)(w w':World):Prop:=jq w' x X' kv∧Fr [x] w w'
theorem gN.same {x:Nat}{X:ap}{kv:Nat→Value}{w:World}(h:jq w x X kv):gN x X kv w w:=⟨h,Fr.refl _ _⟩
theorem Ca (x:Nat)(X:ap)(kv:Nat→Value)(n:Int)(s:ByteArray)(w:World)(h:jq w x X kv)(hs63:s.size<9223372036854775808)(hm:∀ k,aM X n=some k→(X.ses k).more):
  Calls Tryz.prog 16 #[.pointer (some ⟨x,0,none⟩),.int .i64 n,.string s] w fun e w'=>e=.returned (.int .i64 (cj X n s).1)∧gN x (cj X n s).2 kv w w':=by
 have HF:=af (eX x X n w h.ses)
 have HR:=af (ya s w hs63)
 have HP:=af h
 unfold cj
 cases hf:aM X n with
 |none=>
  rw[hf] at HF
  clear h hf HR hm
  go_enter Tryz.func16,Tryz.ntmps16
  go_wp2_with fail
  go_at_call 36
  refine HF.out.mono ?_
  rintro e w' ⟨rfl,rfl⟩
  simp only[dn]
  go_wp2
  go_ret
  exact⟨rfl,gN.same HP.out⟩
 |some k=>
  rw[hf] at HF
  have hk:k<8:=by
   unfold aM at hf
   split at hf
   ·cases hf
   ·exact (bu hf).1
  simp only[]
  cases hb:eU s with
  |false=>
   have e1:js s=.tuple #[.int .i64 0,.int .i64 0,.bool false]:=by unfold js;rw[hb];rfl
   rw[e1] at HR
   clear h hf e1 hb hm
   go_enter Tryz.func16,Tryz.ntmps16
   go_wp2_with fail
   go_at_call 36
   refine HF.out.mono ?_
   rintro e w' ⟨rfl,rfl⟩
   simp only[dn]
   go_wp2_with fail
   go_at_call 37
   refine HR.out.mono ?_
   rintro e w' ⟨rfl,rfl⟩
   go_wp2
   go_ret
   exact⟨rfl,gN.same HP.out⟩
  |true=>
   have e1:js s=.tuple #[.int .i64 (dO s),.int .i64 (bt s 2 - 48),.bool true]:=by unfold js;rw[hb];rfl
   rw[e1] at HR
   have hcn:dO s<60:=by
    simp only[eU,Bool.and_eq_true,aU,bM,decide_eq_true_eq] at hb
    unfold dO
    omega
   obtain⟨cs,hcs⟩:=h.block
   have HSP:=af (C3 x (3+k*244) (dO s) (bt s 2 - 48) (X.ses k) w hcn hcs (h.ses k hk) (hm k hf))
   clear h hf e1 hb hcs hm
   simp only[if_true]
   obtain⟨v,hv⟩:∃ v,v=bt s 2 - 48:=⟨_,rfl⟩
   obtain⟨c,hc⟩:∃ c,c=dO s:=⟨_,rfl⟩
   rw[←hv,←hc] at HR HSP ⊢
   clear hv hc hcn
   go_enter Tryz.func16,Tryz.ntmps16
   go_wp2_with fail
   go_at_call 36
   refine HF.out.mono ?_
   rintro e w' ⟨rfl,rfl⟩
   simp only[dn]
   go_wp2_with fail
   go_at_call 37
   refine HR.out.mono ?_
   rintro e w' ⟨rfl,rfl⟩
   go_wp2_with fail
   go_at_call 38
   refine HSP.out.mono ?_
   rintro e w1 ⟨rfl,ht⟩
   have HT:=af ht
   clear ht
   go_wp2
   go_ret
   exact⟨rfl,HP.out.setSes hk HT.out.ses HT.out.chg,HT.out.chg.fr⟩
theorem yk (x:Nat)(X:ap)(kv:Nat→Value)(n:Int)(s:ByteArray)(w:World)(h:jq w x X kv)(hs63:s.size<9223372036854775808)(hm:∀ k,aM X n=some k→(X.ses k).more):
  Calls Tryz.prog 18 #[.pointer (some ⟨x,0,none⟩),.int .i64 n,.string s] w fun e w'=>e=.returned (.int .i64 (aX X n s).1)∧gN x (aX X n s).2 kv w w':=by
 have HF:=af (eX x X n w h.ses)
 have HR:=af (qF s w hs63)
 have HP:=af h
 unfold aX
 cases hf:aM X n with
 |none=>
  rw[hf] at HF
  clear h hf HR hm
  go_enter Tryz.func18,Tryz.ntmps18
  go_wp2_with fail
  go_at_call 36
  refine HF.out.mono ?_
  rintro e w' ⟨rfl,rfl⟩
  simp only[dn]
  go_wp2
  go_ret
  exact⟨rfl,gN.same HP.out⟩
 |some k=>
  rw[hf] at HF
  have hk:k<8:=by
   unfold aM at hf
   split at hf
   ·cases hf
   ·exact (bu hf).1
  simp only[]
  cases hb:eE s with
  |false=>
   have e1:gB s=.tuple #[.int .i64 0,.bool false]:=by unfold gB;rw[hb];rfl
   rw[e1] at HR
   clear h hf e1 hb hm
   go_enter Tryz.func18,Tryz.ntmps18
   go_wp2_with fail
   go_at_call 36
   refine HF.out.mono ?_
   rintro e w' ⟨rfl,rfl⟩
   simp only[dn]
   go_wp2_with fail
   go_at_call 42
   refine HR.out.mono ?_
   rintro e w' ⟨rfl,rfl⟩
   go_wp2
   go_ret
   exact⟨rfl,gN.same HP.out⟩
  |true=>
   have e1:gB s=.tuple #[.int .i64 (dO s),.bool true]:=by unfold gB;rw[hb];rfl
   rw[e1] at HR
   have hcn:dO s<60:=by
    simp only[eE,Bool.and_eq_true,aU,bM,decide_eq_true_eq] at hb
    unfold dO
    omega
   obtain⟨cs,hcs⟩:=h.block
   have HSP:=af (xX x (3+k*244) (dO s) (X.ses k) w hcn hcs (h.ses k hk) (hm k hf))
   clear h hf e1 hb hcs hm
   simp only[if_true]
   obtain⟨c,hc⟩:∃ c,c=dO s:=⟨_,rfl⟩
   rw[←hc] at HR HSP ⊢
   clear hc hcn
   go_enter Tryz.func18,Tryz.ntmps18
   go_wp2_with fail
   go_at_call 36
   refine HF.out.mono ?_
   rintro e w' ⟨rfl,rfl⟩
   simp only[dn]
   go_wp2_with fail
   go_at_call 42
   refine HR.out.mono ?_
   rintro e w' ⟨rfl,rfl⟩
   go_wp2_with fail
   go_at_call 43
   refine HSP.out.mono ?_
   rintro e w1 ⟨rfl,ht⟩
   have HT:=af ht
   clear ht
   go_wp2
   go_ret
   exact⟨rfl,HP.out.setSes hk HT.out.ses HT.out.chg,HT.out.chg.fr⟩
theorem jq.grown {w w':World}{x:Nat}{X:ap}{kv:Nat→Value}(h:jq w x X kv)(hg:w.grownBy w' none):jq w' x X kv:=by
 obtain⟨cs,hb⟩:=h.block
 refine⟨⟨cs,(hg.block x (lt_of_block hb) (by simp)).trans hb⟩,am hg h.rules,am hg h.room,am hg h.opened,fun k hk=>?_,⟨am hg h.store.latest,fun c hc=>am hg (h.store.last c hc),fun c hc=>am hg (h.store.kept c hc)⟩⟩
 have:=h.ses k hk
 exact⟨am hg this.num,am hg this.snap,am hg this.cnt,fun c hc=>am hg (this.made c hc),fun c hc=>am hg (this.filled c hc),fun c hc=>am hg (this.val c hc),fun c hc=>am hg (this.tm c hc),am hg this.mks,this.ok⟩
theorem lu {w:World}{g n:Nat}{cs:Array Value}{t:TypeId}(hn:cs.size=n)(hb:w.heap[g]?=some (.cells cs t (0,0))):w.there g 0 n:=fun j hj=>by
 refine⟨?_,ai hb _⟩
 rw[cell_of_row _ _ _ _ _ _ hb,Array.getElem?_eq_getElem (by omega)]
 rfl
theorem jO {w:World}{b o x i:Nat}{vs:List Value}(h:x≠b):(w.setCells b o vs).cell? ⟨x,i,none⟩=w.cell? ⟨x,i,none⟩:=World.cell?_setCells_out b vs o w ⟨x,i,none⟩ (fun hb _=>absurd hb h)
theorem cw {w:World}{r:Option Nat}{b:Nat}(hb:w.heap.size≤b):∀ (vs:List Value) (o:Nat) {w':World},w.grownBy w' r→w.grownBy (w'.setCells b o vs) r
 |[],_,_,h=>h
 |v::vs,o,_,h=>cw hb vs (o+1) (aj h (.inr hb) v)
theorem rH (w:World){n:Nat}{cs:Array Value}{t:TypeId}(hn:cs.size=n):(w.alloc (.cells cs t)).there w.heap.size 0 n:=lu hn (heap_alloc_new w _)
def fO (X:ap)(k:Nat):List aw:=dj (X.ses k) (fun c=>aN (X.hist c) (X.ses k).snap) 60
def EC (g:Nat→Option Int):Prop:=∀ c v,c<60→g c=some v→0≤v∧v≤9
theorem nL (X:ap)(k c:Nat):(cM (X.ses k) (fun c=>aN (X.hist c) (X.ses k).snap) c).map (·.1)=jk X k c:=by
 unfold cM jk
 cases h:(X.ses k).wr c with
 |none=>simp[gt,Function.comp_def]
 |some v=>simp[Function.comp_def]
theorem jX {X:ap}{k:Nat}{q:aw}(h:q∈fO X k):q.1<60∧jk X k q.1=some q.2.1:=by
 unfold fO dj at h
 obtain⟨c,hc,hm⟩:=List.mem_filterMap.mp h
 cases hs:cM (X.ses k) (fun c=>aN (X.hist c) (X.ses k).snap) c with
 |none=>rw[hs] at hm;cases hm
 |some p=>
  rw[hs] at hm
  simp only[Option.map_some,Option.some.injEq] at hm
  rw[←hm]
  have:=nL X k c
  rw[hs] at this
  exact⟨by simpa using hc,this.symm⟩
theorem AZ (X:ap)(k:Nat):oP X k=ch ((fO X k).map fun q=>cz q.1 q.2.1):=by
 unfold oP fO dj
 rw[List.map_filterMap]
 congr 2
 funext c
 rw[←nL X k c]
 cases cM (X.ses k) (fun c=>aN (X.hist c) (X.ses k).snap) c <;> rfl
theorem tM (X:ap)(k:Nat):(fO X k).length≤60:=iu _ _ _
theorem sw (x:Nat)(X:ap)(kv:Nat→Value)(k:Nat)(w:World)(hk:k<8)(h:jq w x X kv)(hR:oC w X kv)(hl:∀ c,c<60→(X.hist c).length≤9223372036854775807):
  Calls Tryz.prog 44 #[.pointer (some ⟨x,0,none⟩),.pointer (some ⟨x,3+k*244,none⟩)] w fun e w'=>∃ v,e=.returned v∧w'.ownsRow w.heap.size 114 4 v (fO X k).length (bE (fO X k))∧w.grownBy w' none:=by
 have c1:=(h.ses k hk).snap
 have hxl:=h.lt
 obtain⟨sn,hsn⟩:∃ sn,sn=(X.ses k).snap:=⟨_,rfl⟩
 rw[←hsn] at c1
 have HAT:Hid (∀ W,w.grownBy W none→Calls Tryz.prog 60 #[.pointer (some ⟨x,1955,none⟩),.int .i64 sn] W fun e w'=>(∃ sc,e=.returned (.agg sc)∧jg sc 60 (fun c=>aN (X.hist c) sn))∧W.grownBy w' none):=af (fun W hg=>yE x 1955 X kv sn W (h.grown hg).store (fun c hc=>jz hg (hR c hc)) hl)
 have HSV:Hid (∀ W sc,w.grownBy W none→jg sc 60 (fun c=>aN (X.hist c) sn)→Calls Tryz.prog 77 #[.pointer (some ⟨x,3+k*244,none⟩),.agg sc] W fun e w'=>∃ v,e=.returned v∧w'.ownsRow w.heap.size 114 4 v (fO X k).length (bE (fO X k))∧W.grownBy w' none):=af (fun W sc hg hsc=>by
  have:=sI x (3+k*244) (X.ses k) (fun c=>aN (X.hist c) sn) sc W ((h.grown hg).ses k hk) hsc
  rw[hsn] at this
  refine this.mono ?_
  rintro e w' ⟨v,rfl,ho,hg'⟩
  exact⟨v,rfl,bN ho hg.size,hg'⟩)
 obtain⟨hz,hzs⟩:=zero_of_info Tryz.zinfo138
 obtain⟨z,hzz⟩:∃ z,z=iY:=⟨_,rfl⟩
 have hzsz:Hid (z.size=180):=af (by rw[hzz];exact ij)
 rw[←hzz] at hz
 have HZS:=af hzs
 clear h hR hl hzz hzs hsn
 have hxz:x≠w.heap.size:=by omega
 obtain⟨F,hF⟩:∃ F,F=fO X k:=⟨_,rfl⟩
 rw[←hF] at HSV ⊢
 clear hF
 go_enter Tryz.func44,Tryz.ntmps44
 go_wp2_with fail
 have hne:=World.new_ne w ⟨x,3+k*244+1,none⟩ c1
 go_region_held3 (fun W=>W.cell? ⟨x,3+k*244+1,none⟩=some (.int .i64 sn)) (first|go_keep|(exact am hg1 (by assumption))|(rw[jO (by first|exact hxn1|exact hxz)];assumption)) (first
  |(go_at_call 60
    refine (HAT.out _ (by first|exact al (ag _ _) 1|exact al (ab (ag _ _) _) 1|exact ab (al (ag _ _) 1) _)).mono ?_
    rintro e w1 ⟨⟨sc,rfl,hsc⟩,hg1⟩
    obtain⟨cl,rfl⟩:∃ cl:List Value,sc=cl.toArray:=⟨sc.toList,by simp⟩
    have HSC:=af hsc
    have hcl:cl.length=180:=by have:=hsc.size;simpa using this
    have hinf:(Tryz.prog.info? 138).map (·.size)=some cl.length:=HZS.out.trans (by rw[hcl])
    have hone:∀ v∈cl,v.oneCell'=true:=fun v hv=>Array.all_eq_true_iff_forall_mem.1 hsc.one v (by simpa using hv)
    clear hsc
    have hxn1:x≠w1.heap.size:=by have:=hg1.size;simp at this;omega
    have HthA:(w1.alloc (.cells z 138)).there w1.heap.size 0 180:=rH w1 hzsz.out
    try (have HthB:w1.there w.heap.size 0 180:=lu hzsz.out ((hg1.block w.heap.size (by simp) (by simp)).trans (heap_alloc_new _ _)))))
 ·have HR2:=af (World.rangeAt_setCells_same _ w1.heap.size 0 cl (by rw[hcl];exact HthA))
  have HG2:Hid (w.grownBy ((w1.alloc (.cells z 138)).setCells w1.heap.size 0 cl) none):=af (cw (by have:=hg1.size;simpa using this) _ _ (ab (cD (n:=1) hg1) _))
  clear HthA hg1
  generalize (w1.alloc (.cells z 138)).setCells w1.heap.size 0 cl=W2 at HR2 HG2 ⊢
  go_wp2_with (refine wpList_load_mid rfl 138 (.tmp 5) rfl w1.heap.size 0 rfl cl _ HR2.out Tryz.underlying138 rfl hinf ?_)
  go_at_call 77
  refine (HSV.out _ _ HG2.out HSC.out).mono ?_
  rintro e w3 ⟨v,rfl,hown,hg3⟩
  have HG3:=af hg3
  have HOW:=af hown
  clear hg3 hown
  go_wp2
  go_ret
  exact⟨v,rfl,HOW.out,ae HG2.out HG3.out⟩
 ·have HR2:=af (World.rangeAt_setCells_same _ w.heap.size 0 cl (by rw[hcl];exact HthB))
  have HG2:Hid (w.grownBy (w1.setCells w.heap.size 0 cl) none):=af (cw (Nat.le_refl _) _ _ (ae (by first|exact al (ab (ag _ _) _) 1|exact ab (al (ag _ _) 1) _) hg1))
  clear HthA HthB hg1
  generalize w1.setCells w.heap.size 0 cl=W2 at HR2 HG2 ⊢
  go_wp2_with (refine wpList_load_mid rfl 138 (.tmp 5) rfl w.heap.size 0 rfl cl _ HR2.out Tryz.underlying138 rfl hinf ?_)
  go_at_call 77
  refine (HSV.out _ _ HG2.out HSC.out).mono ?_
  rintro e w3 ⟨v,rfl,hown,hg3⟩
  have HG3:=af hg3
  have HOW:=af hown
  clear hg3 hown
  go_wp2
  go_ret
  exact⟨v,rfl,HOW.out,ae HG2.out HG3.out⟩
theorem vQ (F:List aw)(j:Nat)(hj:j<F.length):ch ((F.take (j+1)).map fun q=>cz q.1 q.2.1)=ch ((F.take j).map fun q=>cz q.1 q.2.1)++cz F[j].1 F[j].2.1:=by
 rw[List.take_succ_eq_append_getElem hj,List.map_append]
 exact hJ _ _
theorem jh (F:List aw):(ch (F.map fun q=>cz q.1 q.2.1)).size=3*F.length:=by
 have key:∀ (l:List aw) (z:ByteArray),((l.map fun q=>cz q.1 q.2.1).foldl (·++·) z).size=z.size+3*l.length:=by
  intro l
  induction l with
  |nil=>intro z;simp
  |cons q l ih=>
   intro z
   rw[List.map_cons,List.foldl_cons,ih,ByteArray.size_append,kt]
   simp
   omega
 have:=key F ByteArray.empty
 unfold ch
 rw[this]
 simp
theorem A4 (x:Nat)(X:ap)(kv:Nat→Value)(n:Int)(w:World)(h:jq w x X kv)(hR:oC w X kv)(hl:∀ c,c<60→(X.hist c).length≤9223372036854775807)(hd:∀ k,aM X n=some k→EC (jk X k)):
  Calls Tryz.prog 20 #[.pointer (some ⟨x,0,none⟩),.int .i64 n] w fun e w'=>e=.returned (.tuple #[.string (e9 X n).1,.int .i64 (e9 X n).2])∧w.grownBy w' none:=by
 have HF:=af (eX x X n w h.ses)
 unfold e9
 cases hf:aM X n with
 |none=>
  rw[hf] at HF
  clear h hf hR hl hd
  go_enter Tryz.func20,Tryz.ntmps20
  go_wp2_with fail
  go_at_call 36
  refine HF.out.mono ?_
  rintro e w' ⟨rfl,rfl⟩
  simp only[dn]
  go_wp2
  go_ret2
  exact⟨rfl,ag _ _⟩
 |some k=>
  rw[hf] at HF
  have hk:k<8:=by
   unfold aM at hf
   split at hf
   ·cases hf
   ·exact (bu hf).1
  simp only[]
  have HSE:=af (sw x X kv k w hk h hR hl)
  have HD:Hid (∀ q∈fO X k,q.1<60∧0≤q.2.1∧q.2.1≤9):=af (fun q hq=>⟨(jX hq).1,hd k hf q.1 q.2.1 (jX hq).1 (jX hq).2⟩)
  have hFl:=tM X k
  rw[AZ]
  obtain⟨F,hF⟩:∃ F,F=fO X k:=⟨_,rfl⟩
  rw[←hF] at HSE HD hFl ⊢
  clear h hf hR hl hd hF
  go_enter Tryz.func20,Tryz.ntmps20
  go_wp2_with fail
  go_at_call 36
  refine HF.out.mono ?_
  rintro e w' ⟨rfl,rfl⟩
  simp only[dn]
  go_wp2_with fail
  go_at_call 44
  refine HSE.out.mono ?_
  rintro e w1 ⟨v,rfl,hown,hg1⟩
  obtain⟨a,m,c,rfl⟩:=an hown
  have em:=ar hown
  subst em
  have HG1:=af hg1
  have HOW:=af hown
  clear HSE hg1 hown HF
  go_wp2_with fail
  go_loopw [8,21] (fun t i wr=>∃ j:Nat,j≤F.length∧i=.int .i64 j∧t=.string (ch ((F.take j).map fun q=>cz q.1 q.2.1))∧w1.grownBy wr none) (fun _ i _=>F.length - (intOf i).toNat)
  case atStart=>exact⟨0,Nat.zero_le _,rfl,rfl,ag _ _⟩
  case round=>
   obtain⟨j,hj,rfl,rfl,hg⟩:=hrel
   have HG:=af hg
   by_cases hlt:j<F.length
   ·have how:=aq HOW.out hg (fun g hg=>by cases hg)
    obtain⟨g,rfl,_,hgb,hgl,hcell⟩:=aC how (by omega)
    obtain⟨a0,a1,a2,a3⟩:=lY F j hlt
    have d0:=hcell _ _ a0
    have d1:=hcell _ _ a1
    have d2:=hcell _ _ a2
    have d3:=hcell _ _ a3
    obtain⟨hb1,hb2,hb3⟩:=HD.out F[j] (List.getElem_mem hlt)
    have HTX:=af (fun W=>ny F[j].1 F[j].2.1 F[j].2.2 W hb1 hb2 hb3)
    unfold kQ at HTX
    have HJ:=af (vQ F j hlt)
    have hjs:(ch ((F.take j).map fun q=>cz q.1 q.2.1)).size≤180:=by rw[jh];simp;omega
    have hfz:=kt F[j].1 F[j].2.1
    obtain⟨jt,hjt⟩:∃ jt,jt=ch ((F.take j).map fun q=>cz q.1 q.2.1):=⟨_,rfl⟩
    obtain⟨ft,hft⟩:∃ ft,ft=cz F[j].1 F[j].2.1:=⟨_,rfl⟩
    rw[←hjt] at hjs HJ ⊢
    rw[←hft] at hfz HJ HTX
    have hgz:g≠wr.heap.size:=by omega
    obtain⟨c0,hc0⟩:∃ c0,c0=F[j].1:=⟨_,rfl⟩
    obtain⟨v0,hv0⟩:∃ v0,v0=F[j].2.1:=⟨_,rfl⟩
    obtain⟨t0,ht0⟩:∃ t0,t0=F[j].2.2:=⟨_,rfl⟩
    rw[←hc0] at d0 d1
    rw[←hv0] at d2
    rw[←ht0] at d3
    simp only[] at HTX
    rw[←hc0,←hv0,←ht0] at HTX
    clear hjt hft hcell a0 a1 a2 a3 hb1 hb2 hb3 hc0 hv0 ht0 how hg
    go_wp2_with fail
    go_at_call 45
    refine (HTX.out _).mono ?_
    rintro e w2 ⟨rfl,hg2⟩
    have HG2:=af hg2
    clear hg2
    go_wp2_with fail
    go_roundw
    case rel=>exact⟨j+1,by omega,by go_num,by rw[HJ.out],ae HG.out (ae (ab (ag _ _) _) HG2.out)⟩
    case measure=>simp[intOf];omega
   ·clear hg
    go_wp2
    go_ret2
    have e:F.take j=F:=List.take_of_length_le (by omega)
    rw[e]
    exact⟨rfl,ae HG1.out HG.out⟩
end Go.Proofs.YthlhbjnkohinmabGreat
