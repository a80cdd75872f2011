import Derived.Test.YthlhbjnkohinmaaGreatP27
import Derived.Deep.RegionHeld3
import Derived.Deep.AppendLies
namespace Go.Proofs.YthlhbjnkohinmaaGreat
set_option maxRecDepth 100000
set_option maxHeartbeats 8000000
open Go.RowKit
theorem lY (wr:List Wr)(n:Nat):(cE wr n).length≤n:=by
 have:=List.length_filterMap_le (cP wr) (List.range n)
 simpa [cE] using this
theorem tU (S:br)(p:Value)(fp:List Nat)(w:World)(hses:ez p S w fp)(hwl:S.wr.length≤9223372036854775806):
  Calls Tryz.prog 58 #[p] w fun e w'=>∃ v,e=.returned v∧w'.ownsRow w.heap.size 107 2 v (aQ S.wr).length (aP (aQ S.wr))∧w.grownBy w' none:=by
 obtain⟨i0,hi0,hz0,hz1,hz2⟩:=info_parts Tryz.info107
 obtain⟨g1,a1,m1,c1,a2,m2,c2,rfl,hb1,hown1,_,_⟩:=hses.open
 have em1:=au hown1
 subst em1
 have hg1l:=lt_of_block hb1
 have HB1:=af hb1
 have HO1:=af hown1
 clear hses hb1 hown1
 go_enter Tryz.func58,Tryz.ntmps58
 go_wp2_with fail
 go_loopw [3,4] (fun v t wr=>∃ k:Nat,k≤60∧t=.int .i64 k∧wr.ownsRow w.heap.size 107 2 v (cE S.wr k).length (aP (cE S.wr k))∧w.grownBy wr none) (fun _ t _=>60 - (intOf t).toNat)
 case atStart=>exact⟨0,by omega,rfl,World.ownsRow_nil _ _ _ _,ag _ _⟩
 case round=>
  obtain⟨k,hk,rfl,hown,hg⟩:=hrel
  by_cases hlt:k<60
  ·have HCE:=af (vq k wr hlt)
   have HNS:=af (km S.wr k)
   have hnl:=lY S.wr k
   go_wp2_with fail
   go_at_call 84
   refine HCE.out.mono ?_
   rintro e w1 ⟨rfl,hg1⟩
   have hg01:=ae hg hg1
   have hb2:=(hg01.block g1 hg1l (by simp)).trans HB1.out
   have d2:w1.cell? ⟨g1,2,none⟩=some (.slice a1 S.wr.length c1):=by rw[cell_of_row _ _ _ _ _ _ hb2];rfl
   have hor:=aq HO1.out hg01 (fun g hg=>by cases hg)
   have HLA:=af (nh S.wr (ax k) a1 S.wr.length c1 0 w1 (by omega) hor)
   have hown2:=aq hown hg1 (fun g hg=>by cases hg)
   have hsz:=hg01.size
   obtain⟨ct,hct⟩:∃ ct,ct=ax k:=⟨_,rfl⟩
   have HNA:Hid (cP S.wr k=(bc ct S.wr).map fun j=>S.wr.getD j (ByteArray.empty,0)):=af (by rw[hct];rfl)
   rw[←hct] at HLA ⊢
   clear hct HCE hb2 hown hg hg1
   cases hla:bc ct S.wr with
   |none=>
    have e2:eM S.wr ct=-1:=by unfold eM;rw[hla]
    rw[e2] at HLA
    have HF':Hid (cE S.wr (k+1)=cE S.wr k):=af (by rw[HNS.out,HNA.out,hla];simp)
    clear hla e2 hor
    go_wp2_with fail
    go_at_call 87
    refine HLA.out.mono ?_
    rintro e w2 ⟨rfl,rfl⟩
    go_wp2
    go_roundw
    case rel=>exact⟨k+1,by omega,by go_num,by rw[HF'.out];exact hown2,hg01⟩
    case measure=>simp[intOf];omega
   |some j=>
    have hj:=fP hla
    have e2:eM S.wr ct=j:=by unfold eM;rw[hla]
    rw[e2] at HLA
    have hjd:S.wr.getD j (ByteArray.empty,0)=S.wr[j]:=by simp[List.getD,hj]
    have HF':Hid (cE S.wr (k+1)=cE S.wr k++[S.wr[j]]):=af (by rw[HNS.out,HNA.out,hla];simp[hj])
    obtain⟨g2,rfl,_,hgb,hgl,hcell⟩:=aC hor (by omega)
    have x0:=hcell _ _ (dD S.wr j hj).1
    have x1:=hcell _ _ (dD S.wr j hj).2
    obtain⟨p0,hp0⟩:∃ p0,p0=S.wr[j]:=⟨_,rfl⟩
    rw[←hp0] at x0 x1 HF'
    clear hla e2 hor hjd hcell hp0
    go_wp2_with fail
    go_at_call 87
    refine HLA.out.mono ?_
    rintro e w2 ⟨rfl,rfl⟩
    go_wp2_with (first|(at_builtin;refine wpList_append_own _ rfl (.tmp 21) (.tmp 29) 97 rfl (w.heap.size) 107 i0 (.agg #[.string ByteArray.empty,.int .i64 0]) 2 24 Tryz.underlying97 hi0 hz0 hz1 hz2 rfl (by decide) _ _ _ rfl (hown2.alloc _) _ 1 1 [.string p0.1,.int .i64 p0.2] rfl rfl (fun j u hj=>bj hj) (fun u hu=>by simp at hu;rcases hu with h|h <;> subst h <;> rfl) (by unfold maxLen;omega) (by omega) (by simp;omega) ?_))
    intro v' w3 hown3 hg3 _
    have hown3':w3.ownsRow w.heap.size 107 2 v' (cE S.wr (k+1)).length (aP (cE S.wr (k+1))):=by rw[HF'.out,kq];simpa using hown3
    have hg3':w.grownBy w3 none:=aL (ab hg01 _) hg3 (fun g hg=>(hown2.lt g hg).1)
    clear hown3 hg3 hown2 hg01
    go_wp2
    go_roundw
    case rel=>exact⟨k+1,by omega,by go_num,hown3',hg3'⟩
    case measure=>simp[intOf];omega
  ·have e:k=60:=by omega
   subst e
   go_wp2
   go_ret
   exact⟨_,rfl,hown,hg⟩
theorem sP {w:World}{g:Nat}{x0 x1 x2 x3 x4 x5 u:Value}{t:TypeId}(h:w.heap[g]?=some (.cells #[x0,x1,x2,x3,x4,x5] t (0,0))):(w.setCell ⟨g,2,none⟩ u).heap[g]?=some (.cells #[x0,x1,u,x3,x4,x5] t (0,0)):=by
 obtain⟨hl,e⟩:=Array.getElem?_eq_some_iff.mp h
 simp[World.setCell,hl,Array.getElem_modify,e]
theorem mS {w:World}{g:Nat}{x0 x1 x2 x3 x4 x5 u:Value}{t:TypeId}(h:w.heap[g]?=some (.cells #[x0,x1,x2,x3,x4,x5] t (0,0))):(w.setCell ⟨g,3,none⟩ u).heap[g]?=some (.cells #[x0,x1,x2,u,x4,x5] t (0,0)):=by
 obtain⟨hl,e⟩:=Array.getElem?_eq_some_iff.mp h
 simp[World.setCell,hl,Array.getElem_modify,e]
theorem bJ.within0 {Q:Value→eW}(hQ:∀ v,bW (Q v))(y:Nat)(E:bm):bW (bJ Q y E):=by
 rintro w f ⟨rv,cv,kv,ov,cs,ps,h⟩
 exact bY.within (eY.within _ _ _) (bY.within (hQ rv) (bY.within (bn.within _ _ _ _ _) (bY.within (aB.within (fun _ _=>bn.within _ _ _ _ _) _ _) (bY.within (bn.within _ _ _ _ _) (bY.within (bn.within _ _ _ _ _) (aB.within ez.within _ _)))))) h
theorem CO {A f7 fv C:List Nat}:(A++((f7++fv)++C)).Perm ((A++(f7++C))++fv):=by
 rw[List.append_assoc A]
 apply List.Perm.append_left
 rw[List.append_assoc,List.append_assoc]
 exact List.Perm.append_left f7 List.perm_append_comm
theorem bJ.comGrow {Q:Value→eW}(hQ:∀ v,bT (Q v))(hQw:∀ v,bW (Q v)){y:Nat}{E:bm}{w:World}{f:List Nat}(hE:bJ Q y E w f)(hn:f.Nodup):
  ∃ rv cv kv ov cs,w.heap[y]?=some (.cells #[rv,.int .i64 E.room,cv,kv,ov,.int .i64 E.opened] 40 (0,0))∧w.ownsRow 0 97 1 cv E.com.length cs∧w.ownsRow 0 124 3 kv E.kept.length (cX E.kept)∧(∀ x∈y::cv.ownBlock.toList,x∈f)∧
    ∀ (l:List Wr) (v:Value) (fv:List Nat) (g3 c':Nat) (w3 w':World),bn 107 2 v l.length (aP l) w fv→(∀ x∈fv,x∉f)→fv.Nodup→(cv.ownBlock=some g3∨w.heap.size≤g3)→w3.ownsRow 0 97 1 (.slice (some ⟨g3,0,none⟩) (E.com.length+1) c') (E.com.length+1) (cs++[v])→
      Fr cv.ownBlock.toList w w3→w'.heap=(w3.setCell ⟨y,2,none⟩ (.slice (some ⟨g3,0,none⟩) (E.com.length+1) c')).heap→Fr (y::cv.ownBlock.toList) w w'→
      ∃ f',bJ Q y { E with com:=E.com++[l] } w' f'∧f'.Nodup∧∀ x∈f',x∈f∨x∈fv∨w.heap.size≤x:=by
 have hwi:=bJ.within0 hQw y E hE
 obtain⟨rv,cv,kv,ov,cs,ps,f1,f2,⟨hb,rfl⟩,⟨f3,f4,hq,⟨f5,f6,⟨hcr,rfl⟩,⟨f7,f8,hcom,⟨f9,f10,hkr,⟨f11,f12,hor,hses,rfl⟩,rfl⟩,rfl⟩,rfl⟩,rfl⟩,rfl⟩:=hE
 refine⟨rv,cv,kv,ov,cs,hb,hcr,hkr.1,fun x hx=>by simp at hx ⊢;rcases hx with h|h <;> simp[h],?_⟩
 intro l v fv g3 c' w3 w' hv hvf hvn hg3 hv3 hf3 hw' hfr
 have hvl:=bn.within _ _ _ _ _ hv
 have hyl:=lt_of_block hb
 have hdis:∀ x,x∈f3∨x∈f7∨x∈f9∨x∈f11∨x∈f12∨x∈fv→x∉y::cv.ownBlock.toList:=by
  simp only[List.nodup_append,List.mem_append,List.mem_singleton] at hn
  simp only[List.mem_append,List.mem_singleton] at hvf
  intro x hx hx2
  simp only[List.mem_cons] at hx2
  grind
 have hy3:w3.heap[y]?=some (.cells #[rv,.int .i64 E.room,cv,kv,ov,.int .i64 E.opened] 40 (0,0)):=(hf3.block y hyl (fun e=>by
  simp only[List.nodup_append,List.mem_append,List.mem_singleton] at hn
  grind)).trans hb
 have hy4:w'.heap[y]?=some (.cells #[rv,.int .i64 E.room,.slice (some ⟨g3,0,none⟩) (E.com.length+1) c',kv,ov,.int .i64 E.opened] 40 (0,0)):=by rw[hw'];exact sP hy3
 have hv4:=dn (ownsRow_setCell_other hv3 (aU hv3 hy3 (by decide)) (.slice (some ⟨g3,0,none⟩) (E.com.length+1) c')) hw'
 have hC2:aB im (cs++[v]) (E.com++[l]) w' (f7++fv):=aB.snoc (P:=im) (bn.framed _ _ _ _ _ hv hfr (fun x hx=>hdis x (by simp[hx]))) (aB.framed im.framed _ _ hcom hfr (fun x hx=>hdis x (by simp[hx])))
 refine⟨[y]++(f3++([g3]++((f7++fv)++(f9++(f11++f12))))),⟨rv,_,kv,ov,_,ps,[y],_,⟨hy4,rfl⟩,⟨f3,_,hQ rv hq hfr (fun x hx=>hdis x (by simp[hx])),⟨[g3],_,⟨?_,rfl⟩,⟨f7++fv,_,hC2,⟨f9,_,bn.framed _ _ _ _ _ hkr hfr (fun x hx=>hdis x (by simp[hx])),⟨f11,f12,bn.framed _ _ _ _ _ hor hfr (fun x hx=>hdis x (by simp[hx])),aB.framed ez.framed _ _ hses hfr (fun x hx=>hdis x (by simp[hx])),rfl⟩,rfl⟩,rfl⟩,rfl⟩,rfl⟩,rfl⟩,?_,?_⟩
 ·simp only[List.length_append,List.length_cons,List.length_nil]
  exact hv4
 ·have hg4:g3∈cv.ownBlock.toList∨w.heap.size≤g3:=by
   rcases hg3 with h|h
   ·exact .inl (by rw[h];simp)
   ·exact .inr h
  have hn3:(([y]++f3)++(cv.ownBlock.toList++(f7++(f9++(f11++f12))))).Nodup:=by simpa only [List.append_assoc] using hn
  have hn4:=eb (g':=[g3]) hn3 (fun x hx=>hwi x (by simpa only [List.append_assoc] using hx)) (by simp) (fun x hx=>by simp only[List.mem_singleton] at hx;subst hx;exact hg4)
  have hn5:((([y]++f3)++[g3])++((f7++fv)++(f9++(f11++f12)))).Nodup:=by
   rw[CO.nodup_iff,List.nodup_append]
   refine⟨by simpa only [List.append_assoc] using hn4,hvn,?_⟩
   rintro a ha b hb rfl
   have h1:=hvl a hb
   have h2:=hvf a hb
   simp only[List.mem_append,List.mem_singleton] at ha h2
   have h3:a=g3→a∈cv.ownBlock.toList:=fun e=>by
    subst e
    rcases hg4 with h|h
    ·exact h
    ·omega
   grind
  simpa only [List.append_assoc] using hn5
 ·intro x hx
  have hg4:x=g3→x∈cv.ownBlock.toList∨w.heap.size≤x:=by
   rintro rfl
   rcases hg3 with h|h
   ·exact .inl (by rw[h];simp)
   ·exact .inr h
  simp only[List.mem_append,List.mem_singleton] at hx ⊢
  grind
theorem bJ.keptGrow {Q:Value→eW}(hQ:∀ v,bT (Q v))(hQw:∀ v,bW (Q v)){y:Nat}{E:bm}{w:World}{f:List Nat}(hE:bJ Q y E w f)(hn:f.Nodup):
  ∃ rv cv kv ov cs,w.heap[y]?=some (.cells #[rv,.int .i64 E.room,cv,kv,ov,.int .i64 E.opened] 40 (0,0))∧w.ownsRow 0 97 1 cv E.com.length cs∧w.ownsRow 0 124 3 kv E.kept.length (cX E.kept)∧(∀ x∈y::kv.ownBlock.toList,x∈f)∧
    ∀ (q:Int×Wr) (g3 c':Nat) (w3 w':World),(kv.ownBlock=some g3∨w.heap.size≤g3)→w3.ownsRow 0 124 3 (.slice (some ⟨g3,0,none⟩) (E.kept.length+1) c') (E.kept.length+1) (cX E.kept++[.int .i64 q.1,.string q.2.1,.int .i64 q.2.2])→
      Fr kv.ownBlock.toList w w3→w'.heap=(w3.setCell ⟨y,3,none⟩ (.slice (some ⟨g3,0,none⟩) (E.kept.length+1) c')).heap→Fr (y::kv.ownBlock.toList) w w'→
      ∃ f',bJ Q y { E with kept:=E.kept++[q] } w' f'∧f'.Nodup∧∀ x∈f',x∈f∨w.heap.size≤x:=by
 have hwi:=bJ.within0 hQw y E hE
 obtain⟨rv,cv,kv,ov,cs,ps,f1,f2,⟨hb,rfl⟩,⟨f3,f4,hq,⟨f5,f6,hcr,⟨f7,f8,hcom,⟨f9,f10,⟨hkr,rfl⟩,⟨f11,f12,hor,hses,rfl⟩,rfl⟩,rfl⟩,rfl⟩,rfl⟩,rfl⟩:=hE
 refine⟨rv,cv,kv,ov,cs,hb,hcr.1,hkr,fun x hx=>by simp at hx ⊢;rcases hx with h|h <;> simp[h],?_⟩
 intro q g3 c' w3 w' hg3 hv3 hf3 hw' hfr
 have hyl:=lt_of_block hb
 have hdis:∀ x,x∈f3∨x∈f5∨x∈f7∨x∈f11∨x∈f12→x∉y::kv.ownBlock.toList:=by
  simp only[List.nodup_append,List.mem_append,List.mem_singleton] at hn
  intro x hx hx2
  simp only[List.mem_cons] at hx2
  grind
 have hy3:w3.heap[y]?=some (.cells #[rv,.int .i64 E.room,cv,kv,ov,.int .i64 E.opened] 40 (0,0)):=(hf3.block y hyl (fun e=>by
  simp only[List.nodup_append,List.mem_append,List.mem_singleton] at hn
  grind)).trans hb
 have hy4:w'.heap[y]?=some (.cells #[rv,.int .i64 E.room,cv,.slice (some ⟨g3,0,none⟩) (E.kept.length+1) c',ov,.int .i64 E.opened] 40 (0,0)):=by rw[hw'];exact mS hy3
 have hv4:=dn (ownsRow_setCell_other hv3 (aU hv3 hy3 (by decide)) (.slice (some ⟨g3,0,none⟩) (E.kept.length+1) c')) hw'
 refine⟨[y]++(f3++(f5++(f7++([g3]++(f11++f12))))),⟨rv,cv,_,ov,cs,ps,[y],_,⟨hy4,rfl⟩,⟨f3,_,hQ rv hq hfr (fun x hx=>hdis x (by simp[hx])),⟨f5,_,bn.framed _ _ _ _ _ hcr hfr (fun x hx=>hdis x (by simp[hx])),⟨f7,_,aB.framed im.framed _ _ hcom hfr (fun x hx=>hdis x (by simp[hx])),⟨[g3],_,⟨?_,rfl⟩,⟨f11,f12,bn.framed _ _ _ _ _ hor hfr (fun x hx=>hdis x (by simp[hx])),aB.framed ez.framed _ _ hses hfr (fun x hx=>hdis x (by simp[hx])),rfl⟩,rfl⟩,rfl⟩,rfl⟩,rfl⟩,rfl⟩,?_,?_⟩
 ·have e:cX (E.kept++[q])=cX E.kept++[.int .i64 q.1,.string q.2.1,.int .i64 q.2.2]:=by simp[cX]
  simp only[List.length_append,List.length_cons,List.length_nil]
  rw[e]
  exact hv4
 ·have hg4:g3∈kv.ownBlock.toList∨w.heap.size≤g3:=by
   rcases hg3 with h|h
   ·exact .inl (by rw[h];simp)
   ·exact .inr h
  have hn3:(([y]++(f3++(f5++f7)))++(kv.ownBlock.toList++(f11++f12))).Nodup:=by simpa only [List.append_assoc] using hn
  have hn4:=eb (g':=[g3]) hn3 (fun x hx=>hwi x (by simpa only [List.append_assoc] using hx)) (by simp) (fun x hx=>by simp only[List.mem_singleton] at hx;subst hx;exact hg4)
  simpa only [List.append_assoc] using hn4
 ·intro x hx
  have hg4:x=g3→x∈kv.ownBlock.toList∨w.heap.size≤x:=by
   rintro rfl
   rcases hg3 with h|h
   ·exact .inl (by rw[h];simp)
   ·exact .inr h
  simp only[List.mem_append,List.mem_singleton] at hx ⊢
  grind
theorem Fr.then {f S:List Nat}{w w1 w2:World}(h:Fr f w w1)(k:Fr S w1 w2)(hs:∀ x∈S,x∈f∨w.heap.size≤x):Fr f w w2:=
 ⟨k.os.trans h.os,k.tape.trans h.tape,k.output.trans h.output,Nat.le_trans h.size k.size,fun i hi hf=>(k.block i (Nat.lt_of_lt_of_le hi h.size) (fun e=>by rcases hs i e with h|h;exact hf h;omega)).trans (h.block i hi hf)⟩
theorem gk.back {Q:Value→eW}{y:Nat}{E:bm}{f:List Nat}{w w0 w':World}(h:gk Q y E f w0 w')(hf:Fr [] w w0):gk Q y E f w w':=by
 obtain⟨f',a,n,s,r⟩:=h
 refine⟨f',a,n,fun k hk=>?_,(hf.mono (fun k hk=>by cases hk)).trans r⟩
 rcases s k hk with h|h
 ·exact .inl h
 ·exact .inr (Nat.le_trans hf.size h)
theorem iN {w w':World}(h:Fr [] w w'){b i:Nat}{v:Value}(hc:w.cell? ⟨b,i,none⟩=some v):w'.cell? ⟨b,i,none⟩=some v:=by
 have hb:=World.block_lt_of_cell? w _ hc
 rw[←hc]
 simp only[World.cell?,h.block b hb (by simp)]
theorem Fr.drew0 {w w':World}(h:Fr [] w w'):Fr [] w w'.drew:=h.drewN 1
theorem Tryz.info97:(Tryz.prog.info? 97).map (fun i=>(i.zero,i.size,i.bytes))=some (some (.slice none 0 0),1,24):=by kernel_rfl
theorem Tryz.info124:(Tryz.prog.info? 124).map (fun i=>(i.zero,i.size,i.bytes))=some (some (.agg #[.int .i64 0,.string ByteArray.empty,.int .i64 0]),3,32):=by kernel_rfl
def E2 (E:bm)(l:List Wr)(i:Nat):bm:={ E with com:=E.com++[l],kept:=E.kept++(l.take i).map (fun p=>((E.com.length:Int)+1,p)) }
theorem yv (E:bm)(l:List Wr):E2 E l 0={ E with com:=E.com++[l] }:=by simp[E2]
theorem B3 (E:bm)(l:List Wr){i:Nat}(h:l.length≤i):E2 E l i=E.commit l:=by simp[E2,bm.commit,List.take_of_length_le h]
theorem EU (E:bm)(l:List Wr){i:Nat}(h:i<l.length):E2 E l (i+1)={ E2 E l i with kept:=(E2 E l i).kept++[((E.com.length:Int)+1,l[i])] }:=by
 unfold E2
 rw[List.take_succ_eq_append_getElem h,List.map_append,←List.append_assoc]
 rfl
def jY (Q:Value→eW)(y:Nat)(E:bm)(l:List Wr)(v:Value)(f:List Nat)(w:World)(i:Nat)(wr:World)(f5:List Nat):Prop:=
 bJ Q y (E2 E l i) wr f5∧f5.Nodup∧(∀ x∈f5,x∈f∨w.heap.size≤x)∧Fr f w wr∧wr.ownsRow 0 107 2 v l.length (aP l)
theorem jY.next {Q:Value→eW}(hQ:∀ v,bT (Q v))(hQw:∀ v,bW (Q v)){y:Nat}{E:bm}{l:List Wr}{v:Value}{f:List Nat}{w:World}{i:Nat}{wr:World}{f5:List Nat}(h:jY Q y E l v f w i wr f5)(hlt:i<l.length):
  ∃ rv ac cc ak ck ov cs,wr.heap[y]?=some (.cells #[rv,.int .i64 E.room,.slice ac (E.com.length+1) cc,.slice ak (E.kept.length+i) ck,ov,.int .i64 E.opened] 40 (0,0))∧wr.ownsRow 0 124 3 (.slice ak (E.kept.length+i) ck) (E.kept.length+i) cs∧
    ∀ (g5 c5:Nat) (w5:World),((Value.slice ak (E.kept.length+i) ck).ownBlock=some g5∨wr.heap.size≤g5)→w5.ownsRow 0 124 3 (.slice (some ⟨g5,0,none⟩) (E.kept.length+i+1) c5) (E.kept.length+i+1) (cs++[.int .i64 ((E.com.length:Int)+1),.string l[i].1,.int .i64 l[i].2])→Fr (Value.slice ak (E.kept.length+i) ck).ownBlock.toList wr w5→
      ∃ f6,jY Q y E l v f w (i+1) (w5.setCell ⟨y,3,none⟩ (.slice (some ⟨g5,0,none⟩) (E.kept.length+i+1) c5)) f6:=by
 obtain⟨hE5,hn5,hs5,hfr5,hv5⟩:=h
 have hkl:(E2 E l i).kept.length=E.kept.length+i:=by simp[E2];omega
 have hcl:(E2 E l i).com.length=E.com.length+1:=by simp[E2]
 obtain⟨rv,cv,kv,ov,cs0,yb,ycr,ykr,yin,ygo⟩:=bJ.keptGrow hQ hQw hE5 hn5
 obtain⟨ac,mc,cc,rfl⟩:=an ycr
 obtain⟨ak,mk,ck,rfl⟩:=an ykr
 have em:=au ycr
 have ek:=au ykr
 rw[hcl] at em
 rw[hkl] at ek
 subst em
 subst ek
 rw[hkl] at ykr ygo
 refine⟨rv,ac,cc,ak,ck,ov,cX (E2 E l i).kept,yb,ykr,?_⟩
 intro g5 c5 w5 hg5 hown5 hfr
 have hfr6:Fr (y::(Value.slice ak (E.kept.length+i) ck).ownBlock.toList) wr (w5.setCell ⟨y,3,none⟩ (.slice (some ⟨g5,0,none⟩) (E.kept.length+i+1) c5)):=(hfr.mono (fun k hk=>.inl (by simp at hk ⊢;exact .inr hk))).set (.inl (by simp)) _
 obtain⟨f6,a,nn,s⟩:=ygo ((E.com.length:Int)+1,l[i]) g5 c5 w5 _ hg5 hown5 hfr rfl hfr6
 refine⟨f6,by rw[EU E l hlt];exact a,nn,fun x hx=>?_,?_,?_⟩
 ·rcases s x hx with h|h
  ·exact hs5 x h
  ·exact .inr (Nat.le_trans hfr5.size h)
 ·exact hfr5.then hfr6 (fun k hk=>hs5 k (yin k hk))
 ·have hne:∀ x∈v.ownBlock.toList,x∉y::(Value.slice ak (E.kept.length+i) ck).ownBlock.toList:=by
   intro x hx e
   have hxv:v.ownBlock=some x:=by
    cases hb:v.ownBlock with
    |none=>rw[hb] at hx;cases hx
    |some z=>rw[hb] at hx;simp at hx;rw[hx]
   obtain⟨cs1,h1⟩:=fw hv5 x hxv
   rcases List.mem_cons.mp e with e|e
   ·subst e
    rw[yb] at h1
    simp at h1
   ·have hxk:(Value.slice ak (E.kept.length+i) ck).ownBlock=some x:=by
     cases hb:(Value.slice ak (E.kept.length+i) ck).ownBlock with
     |none=>rw[hb] at e;cases e
     |some z=>rw[hb] at e;simp at e;rw[e]
    obtain⟨cs2,h2⟩:=fw ykr x hxk
    rw[h2] at h1
    simp at h1
  exact (bn.framed _ _ _ _ _ ⟨hv5,rfl⟩ hfr6 hne).1
def pe (E:bm)(S:br)(l:List Wr)(i:Nat):Prop:=∀ j (h:j<l.length),j<i→¬(dK E.com l[j].1 E.com.length).2>S.snap
theorem pD:∀ (l:List (Int×Wr))(k:Nat)(hk:k<l.length) ,(cX l)[k*3]?=some (.int .i64 l[k].1)∧(cX l)[k*3+1]?=some (.string l[k].2.1)∧(cX l)[k*3+2]?=some (.int .i64 l[k].2.2)
 |p::l,0,_=>⟨rfl,rfl,rfl⟩
 |p::l,k+1,hk=>by
  obtain⟨h1,h2,h3⟩:=pD l k (by simpa using hk)
  have e:cX (p::l)=.int .i64 p.1::.string p.2.1::.int .i64 p.2.2::cX l:=rfl
  rw[e,show (k+1)*3=k*3+1+1+1 by omega]
  exact⟨by simpa using h1,by simpa using h2,by simpa using h3⟩
theorem ve (a b:List (Int×Wr)):cX (a++b)=cX a++cX b:=by simp[cX]
def mi (E:bm)(k:Nat):Int:=(E.opn.take k).foldl (fun o S=>if S.snap<o then S.snap else o) E.com.length
theorem sr {E:bm}{k:Nat}(h:k<E.opn.length):mi E (k+1)=if E.opn[k].snap<mi E k then E.opn[k].snap else mi E k:=by
 unfold mi
 rw[List.take_succ_eq_append_getElem h,List.foldl_append]
 rfl
theorem B8 (E:bm){k:Nat}(h:E.opn.length≤k):mi E k=jF E:=by
 unfold mi jF
 rw[List.take_of_length_le h]
theorem zg {E:bm}(hs:∀ S∈E.opn,0≤S.snap∧S.snap≤E.com.length):∀ k,k≤E.opn.length→0≤mi E k∧mi E k≤E.com.length
 |0,_=>by unfold mi;simp
 |k+1,hk=>by
  have ih:=zg hs k (by omega)
  rw[sr (by omega)]
  have:=hs _ (List.getElem_mem (show k<E.opn.length by omega))
  split <;> omega
def hU (E:bm)(old:Int)(k:Nat):List (Int×Wr):=(E.kept.take k).filter (gF E old)
theorem xF {E:bm}{old:Int}{k:Nat}(h:k<E.kept.length):hU E old (k+1)=hU E old k++(if gF E old E.kept[k] then [E.kept[k]] else []):=by
 unfold hU
 rw[List.take_succ_eq_append_getElem h,List.filter_append]
 congr 1
 cases hw:gF E old E.kept[k] <;> simp[hw]
theorem wh (E:bm)(old:Int)(k:Nat):(hU E old k).length≤k:=by
 unfold hU
 exact Nat.le_trans (List.length_filter_le _ _) (by simp;omega)
theorem vH (y:Nat)(E:bm)(cs ps:List Value)(fc fs:List Nat)(ac ak ao:Option Addr)(cc ck mo co:Nat)(rv:Value)(w:World)
  (hb:w.heap[y]?=some (.cells #[rv,.int .i64 E.room,.slice ac E.com.length cc,.slice ak E.kept.length ck,.slice ao mo co,.int .i64 E.opened] 40 (0,0)))
  (hcr:w.ownsRow 0 97 1 (.slice ac E.com.length cc) E.com.length cs) (hcom:aB im cs E.com w fc)
  (hkr:w.ownsRow 0 124 3 (.slice ak E.kept.length ck) E.kept.length (cX E.kept))
  (hor:w.ownsRow 0 96 1 (.slice ao mo co) E.opn.length ps) (hses:aB ez ps E.opn w fs) (hW:kz E) (hk:E.kept.length≤9999) :
  Calls Tryz.prog 37 #[.pointer (some ⟨y,0,none⟩)] w fun e w'=>e=.returned (.int .i64 (dX E).1)∧∃ v w3,w3.ownsRow w.heap.size 124 3 v (E.swept (jF E)).kept.length (cX (E.swept (jF E)).kept)∧w.grownBy w3 none∧w'.heap=(w3.setCell ⟨y,3,none⟩ v).heap∧Fr [y] w w':=by
 obtain⟨i0,hi0,hz0,hz1,hz2⟩:=info_parts Tryz.info124
 have em:=au hor
 subst em
 have hpl:=aB.len hses
 have hyl:=lt_of_block hb
 have c2:w.cell? ⟨y,2,none⟩=some (.slice ac E.com.length cc):=by simp[World.cell?,hb]
 have c4:w.cell? ⟨y,4,none⟩=some (.slice ao E.opn.length co):=by simp[World.cell?,hb]
 have HB:=af hb
 have HS:=af hses
 have HOR:=af hor
 have HKR:=af hkr
 have hol:=hW.opnLen
 have hcl:=hW.comLen
 have HOB:=af (fun k=>zg (E:=E) hW.snap k)
 have HWA:Hid (∀ (k:Nat) (hk:k<E.kept.length) (old:Nat) (W:World),old≤E.com.length→w.grownBy W none→Calls Tryz.prog 72 #[.pointer (some ⟨y,0,none⟩),.agg #[.int .i64 E.kept[k].1,.string E.kept[k].2.1,.int .i64 E.kept[k].2.2],.int .i64 old] W fun e w'=>e=.returned (.bool (gF E old E.kept[k]))∧W.grownBy w' none):=af (fun k hk old W ho hg=>
  xU y E cs fc ac cc E.kept[k].1 E.kept[k].2.2 E.kept[k].2.1 old W (hg.cell c2 (by simp)) (aq hcr hg (fun g hg=>by cases hg)) (aB.framed im.framed _ _ hcom (aK hg) (by simp)) hW.comLen hW.comEach ho)
 have HRES:Hid ((dX E).1=(E.kept.length:Int) - ((hU E (jF E) E.kept.length).length:Int)∧(E.swept (jF E)).kept=hU E (jF E) E.kept.length):=af (by
  have e:(E.swept (jF E)).kept=hU E (jF E) E.kept.length:=by unfold hU;rw[List.take_length];rfl
  exact⟨by unfold dX;rw[e],e⟩)
 clear hses hor hb hkr hcom hcr hW
 go_enter Tryz.func37,Tryz.ntmps37
 go_wp2_with fail
 go_loop [3,4] (fun o t=>∃ k:Nat,k≤E.opn.length∧t=.int .i64 k∧o=.int .i64 (mi E k)) (fun _ t=>E.opn.length - (intOf t).toNat)
 case atStart=>exact⟨0,Nat.zero_le _,rfl,by unfold mi;simp⟩
 case round=>
  obtain⟨k,hk1,rfl,rfl⟩:=hrel
  by_cases hlt:k<E.opn.length
  ·have hlt2:k<ps.length:=by omega
   obtain⟨g,rfl,_,hgb,hgl,hcell⟩:=aC HOR.out (by omega)
   obtain⟨f1,hse,_⟩:=aB.get HS.out k hlt2 hlt
   obtain⟨g1,a1,m1,c1,a2,m2,c2',hp,hb1,_,_,_⟩:=hse.open
   have d0:w.cell? ⟨g,k,none⟩=some (.pointer (some ⟨g1,0,none⟩)):=by
    rw[←hp]
    exact hcell k _ (List.getElem?_eq_getElem hlt2)
   have d1:w.cell? ⟨g1,1,none⟩=some (.int .i64 E.opn[k].snap):=by simp[World.cell?,hb1]
   have HOS:=af (sr hlt)
   obtain⟨sn,hsn⟩:∃ sn,sn=E.opn[k].snap:=⟨_,rfl⟩
   rw[←hsn] at d1 HOS
   obtain⟨ok,hok⟩:∃ ok,ok=mi E k:=⟨_,rfl⟩
   rw[←hok] at HOS ⊢
   clear hcell hse hb1 hsn hok
   by_cases e:sn<ok
   ·have HO2:Hid (mi E (k+1)=sn):=af (by rw[HOS.out,if_pos e])
    go_wp2_with fail
    go_round
    case rel=>exact⟨k+1,by omega,by go_num,by rw[HO2.out]⟩
    case measure=>simp[intOf];omega
   ·have HO2:Hid (mi E (k+1)=ok):=af (by rw[HOS.out,if_neg e])
    go_wp2_with fail
    go_round
    case rel=>exact⟨k+1,by omega,by go_num,by rw[HO2.out]⟩
    case measure=>simp[intOf];omega
  ·have e:mi E k=jF E:=B8 E (by omega)
   rw[e]
   have hob:=HOB.out k hk1
   rw[e] at hob
   obtain⟨old,hold⟩:∃ old:Nat,jF E=old:=⟨(jF E).toNat,by omega⟩
   have HOLD:=af hold
   rw[hold] at hob ⊢
   clear e HOB hold
   go_wp2_with fail
   go_loopw [5,6] (fun v t wr=>∃ k:Nat,k≤E.kept.length∧t=.int .i64 k∧wr.ownsRow w.heap.size 124 3 v (hU E old k).length (cX (hU E old k))∧w.grownBy wr none) (fun _ t _=>E.kept.length - (intOf t).toNat)
   case atStart=>exact⟨0,Nat.zero_le _,rfl,World.ownsRow_nil _ _ _ _,ag _ _⟩
   case round=>
    obtain⟨j,hj,rfl,hown,hg⟩:=hrel
    obtain⟨va,vm,vc,rfl⟩:=an hown
    have hvm:=au hown
    subst hvm
    have hbw:=(hg.block y hyl (by simp)).trans HB.out
    have d3:wr.cell? ⟨y,3,none⟩=some (.slice ak E.kept.length ck):=by simp[World.cell?,hbw]
    have z3:wr.frozen? ⟨y,3,none⟩=false:=by simp[World.frozen?,hbw]
    by_cases hlt2:j<E.kept.length
    ·obtain⟨g,rfl,_,hgb,hgl,hcell⟩:=aC (aq HKR.out hg (fun g hg=>by cases hg)) (by omega)
     obtain⟨k0,k1,k2⟩:=pD E.kept j hlt2
     have x0:=hcell _ _ k0
     have x1:=hcell _ _ k1
     have x2:=hcell _ _ k2
     have HL:=af (xF (old:=(old:Int)) hlt2)
     have HWK:=af (HWA.out j hlt2 old wr (by omega) hg)
     obtain⟨p,hp⟩:∃ p,p=E.kept[j]:=⟨_,rfl⟩
     rw[←hp] at x0 x1 x2 HL HWK
     obtain⟨p0,p1,p2⟩:=p
     simp only[] at x0 x1 x2 HWK
     obtain⟨bw,hbw2⟩:∃ bw,bw=gF E old (p0,p1,p2):=⟨_,rfl⟩
     rw[←hbw2] at HL HWK
     have hll:=wh E old j
     clear hcell hp hbw k0 k1 k2 hbw2
     go_wp2_with fail
     go_at_call 72
     refine HWK.out.mono ?_
     rintro e w1 ⟨rfl,hg1⟩
     have hgg:=ae hg hg1
     have hown1:=aq hown hg1 (fun g hg=>by cases hg)
     have y0:=hg1.cell x0 (by simp)
     have y1:=hg1.cell x1 (by simp)
     have y2:=hg1.cell x2 (by simp)
     have d3':=hg1.cell d3 (by simp)
     clear x0 x1 x2 d3 z3 hg1 hown hg
     cases bw with
     |false=>
      have HL2:Hid (hU E old (j+1)=hU E old j):=af (by rw[HL.out];simp)
      go_wp2_with fail
      go_roundw
      case rel=>exact⟨j+1,by omega,by go_num,by rw[HL2.out];exact hown1,hgg⟩
      case measure=>simp[intOf];omega
     |true=>
      have HL2:Hid (hU E old (j+1)=hU E old j++[(p0,p1,p2)]):=af (by rw[HL.out];simp)
      have hbs:w.heap.size≤(w1.alloc (.cells #[.int .i64 p0,.string p1,.int .i64 p2] 124)).heap.size:=Nat.le_trans hgg.size (World.grownBy_alloc w1 _ none).size
      go_wp2_with (first|(at_builtin;refine wpList_append_own _ rfl (.tmp 65) (.tmp 73) 37 rfl (w.heap.size) 124 i0 (.agg #[.int .i64 0,.string ByteArray.empty,.int .i64 0]) 3 32 Tryz.underlying37 hi0 hz0 hz1 hz2 rfl (by decide) _ _ _ rfl (hown1.alloc _) _ 1 1 [.int .i64 p0,.string p1,.int .i64 p2] rfl rfl (fun j u hj=>bj hj) (fun u hu=>by simp at hu;rcases hu with h|h|h <;> subst h <;> rfl) (by unfold maxLen;omega) (by omega) hbs ?_))
      ·intro v' w3 hown3 hg3 _
       have hown3':w3.ownsRow w.heap.size 124 3 v' (hU E old (j+1)).length (cX (hU E old (j+1))):=by
        have e1:cX [(p0,p1,p2)]=[.int .i64 p0,.string p1,.int .i64 p2]:=rfl
        rw[HL2.out,ve,e1]
        simpa using hown3
       have hg3':w.grownBy w3 none:=aL (ab hgg _) hg3 (fun g hg=>(hown1.lt g hg).1)
       clear hown3 hg3 hown1 hgg y0 y1 y2 d3'
       go_wp2
       go_roundw
       case rel=>exact⟨j+1,by omega,by go_num,hown3',hg3'⟩
       case measure=>simp[intOf];omega
    ·have e:j=E.kept.length:=by omega
     subst e
     have hll:=wh E old E.kept.length
     have HOWN:=af hown
     have HG:=af hg
     clear hown hg hbw
     go_wp2_with fail
     go_ret
     rw[HRES.out.1,HRES.out.2,HOLD.out]
     exact⟨rfl,_,wr,HOWN.out,HG.out,rfl,((Fr.grown HG.out).mono (fun g hg=>by cases hg)).set (.inl (by simp)) _⟩
theorem pX {Q:Value→eW}(hQ:∀ v,bT (Q v))(hQw:∀ v,bW (Q v)){y:Nat}{E:bm}{w:World}{f:List Nat}(hE:bJ Q y E w f)(hn:f.Nodup)(hW:kz E)(hk:E.kept.length≤9999):
  Calls Tryz.prog 37 #[.pointer (some ⟨y,0,none⟩)] w fun e w'=>e=.returned (.int .i64 (dX E).1)∧gk Q y (dX E).2 f w w':=by
 obtain⟨rv,cv,kv,ov,cs,ps,hst⟩:=hE
 have hwi:∀ x∈f,x<w.heap.size:=fun x hx=>bY.within (eY.within _ _ _) (bY.within (hQw rv) (bY.within (bn.within _ _ _ _ _) (bY.within (aB.within (fun _ _=>bn.within _ _ _ _ _) _ _) (bY.within (bn.within _ _ _ _ _) (bY.within (bn.within _ _ _ _ _) (aB.within ez.within _ _)))))) hst x hx
 obtain⟨f1,f2,⟨hb,rfl⟩,⟨f3,f4,hq,⟨f5,f6,hcr,⟨f7,f8,hcom,⟨f9,f10,⟨hkr,rfl⟩,⟨f11,f12,hor,hses,rfl⟩,rfl⟩,rfl⟩,rfl⟩,rfl⟩,rfl⟩:=hst
 obtain⟨ac,mc,cc,rfl⟩:=an hcr.1
 obtain⟨ak,mk,ck,rfl⟩:=an hkr
 obtain⟨ao,mo,co,rfl⟩:=an hor.1
 have emc:=au hcr.1
 have emk:=au hkr
 subst emc
 subst emk
 refine (vH y E cs ps f7 f12 ac ak ao cc ck mo co rv w hb hcr.1 hcom hkr hor.1 hses hW hk).mono ?_
 rintro e w' ⟨rfl,v,w3,hv3,hg3,hw',hfr⟩
 refine⟨rfl,?_⟩
 have hyl:=lt_of_block hb
 have hy3:=(hg3.block y hyl (by simp)).trans hb
 have hy4:w'.heap[y]?=some (.cells #[rv,.int .i64 E.room,.slice ac E.com.length cc,v,.slice ao mo co,.int .i64 E.opened] 40 (0,0)):=by rw[hw'];exact mS hy3
 have hv4:=bN (dn (ownsRow_setCell_other hv3 (aU hv3 hy3 (by decide)) v) hw') (Nat.zero_le _)
 have hdis:∀ x,x∈f3∨x∈f5∨x∈f7∨x∈f11∨x∈f12→x∉[y]:=by
  simp only[List.nodup_append,List.mem_append,List.mem_singleton] at hn
  intro x hx hx2
  simp only[List.mem_singleton] at hx2
  grind
 have hvb:∀ x∈v.ownBlock.toList,w.heap.size≤x:=by
  intro x hx
  cases hb:v.ownBlock with
  |none=>rw[hb] at hx;cases hx
  |some z=>
   rw[hb] at hx
   simp at hx
   subst hx
   exact (hv3.lt _ hb).1
 refine⟨[y]++(f3++(f5++(f7++(v.ownBlock.toList++(f11++f12))))),⟨rv,_,v,_,cs,_,[y],_,⟨hy4,rfl⟩,⟨f3,_,hQ rv hq hfr (fun x hx=>hdis x (by simp[hx])),⟨f5,_,bn.framed _ _ _ _ _ hcr hfr (fun x hx=>hdis x (by simp[hx])),⟨f7,_,aB.framed im.framed _ _ hcom hfr (fun x hx=>hdis x (by simp[hx])),⟨v.ownBlock.toList,_,⟨hv4,rfl⟩,⟨f11,f12,bn.framed _ _ _ _ _ hor hfr (fun x hx=>hdis x (by simp[hx])),aB.framed ez.framed _ _ hses hfr (fun x hx=>hdis x (by simp[hx])),rfl⟩,rfl⟩,rfl⟩,rfl⟩,rfl⟩,rfl⟩,?_,?_,?_⟩
 ·have hn3:(([y]++(f3++(f5++f7)))++((Value.slice ak E.kept.length ck).ownBlock.toList++(f11++f12))).Nodup:=by
   simp only[List.append_assoc] at hn ⊢
   exact hn
  have hsz:∀ x∈([y]++(f3++(f5++f7)))++((Value.slice ak E.kept.length ck).ownBlock.toList++(f11++f12)),x<w.heap.size:=by
   intro x hx
   apply hwi x
   simp only[List.append_assoc] at hx ⊢
   exact hx
  have:=eb (g':=v.ownBlock.toList) hn3 hsz (by cases v.ownBlock <;> simp) (fun x hx=>.inr (hvb x hx))
  simp only[List.append_assoc] at this ⊢
  exact this
 ·intro x hx
  simp only[List.mem_append] at hx ⊢
  have h7:=hvb x
  grind
 ·exact hfr.mono (fun x hx=>.inl (by simp at hx ⊢;simp[hx]))
end Go.Proofs.YthlhbjnkohinmaaGreat
