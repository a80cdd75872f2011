import Derived.Test.YthlhbjnkohinmaaGreatP37
import Derived.Test.YthlhbjnkohinmaaGreatP14
import Derived.Deep.RegionHeld3
import Derived.Deep.AppendLies
namespace Go.Proofs.YthlhbjnkohinmaaGreat
set_option maxRecDepth 100000
set_option maxHeartbeats 8000000
open Go.RowKit
theorem Bs {w:World} {b o:Nat} {X:ap} {kv:Nat→Value} (h:ji w b o X kv) (hR:oL w X kv) {c:Nat} (hc:c<60):∃ a cp,w.cell? ⟨b,o+1+c*2+1,none⟩=some (.slice a (X.hist c).length cp):=by
 have h1:=hR c hc
 obtain⟨a,m,cp,e⟩:=an h1
 rw[e] at h1
 have em:=ar h1
 subst em
 exact⟨a,cp,by rw[←e];exact h.kept c hc⟩
theorem vE (b o:Nat) (X:ap) (kv:Nat→Value) (w:World) (h:ji w b o X kv) (hR:oL w X kv) (hm:keptN X 60≤9223372036854775807) :
  Calls Tryz.prog 69 #[.pointer (some ⟨b,o,none⟩)] w fun e w'=>e=.returned (.int .i64 (keptN X 60:Nat))∧w'=w:=by
 have HK:Hid (∀ c,c<60→∃ a cp,w.cell? ⟨b,o+1+c*2+1,none⟩=some (.slice a (X.hist c).length cp)):=af (fun c hc=>Bs h hR hc)
 have HM:Hid (∀ k,k≤60→keptN X k≤9223372036854775807):=af (fun k hk=>Nat.le_trans (jW X hk) hm)
 clear h hR hm
 go_enter Tryz.func69,Tryz.ntmps69
 go_wp2_with fail
 go_loop [3,4] (fun t i=>∃ k:Nat,k≤60∧i=.int .i64 k∧t=.int .i64 (keptN X k:Nat)) (fun _ i=>60 - (intOf i).toNat)
 case atStart=>exact⟨0,by omega,rfl,rfl⟩
 case round=>
  obtain⟨k,hk,rfl,rfl⟩:=hrel
  by_cases hlt:k<60
  ·obtain⟨a,cp,d0⟩:=HK.out k hlt
   have hle:=HM.out (k+1) (by omega)
   have HSU:Hid (keptN X (k+1)=keptN X k+(X.hist k).length):=af rfl
   rw[HSU.out] at hle
   obtain⟨m,hm⟩:∃ m,m=keptN X k:=⟨_,rfl⟩
   obtain⟨l,hl⟩:∃ l,l=(X.hist k).length:=⟨_,rfl⟩
   rw[←hm,←hl] at hle HSU
   rw[←hl] at d0
   rw[←hm]
   clear hm hl
   go_wp2
   go_round
   case rel=>exact⟨k+1,by omega,by go_num,by rw[HSU.out];go_num⟩
   case measure=>simp[intOf];omega
  ·have e:k=60:=by omega
   subst e
   go_wp2
   go_ret
   exact⟨rfl,rfl⟩
theorem tG (b o:Nat) (S:aI) (w:World) (h:cI w b o S) :
  Calls Tryz.prog 55 #[.pointer (some ⟨b,o,none⟩)] w fun e w'=>e=.returned (.int .i64 (cw S 60:Nat))∧w'=w:=by
 have HM:=af h.made
 clear h
 go_enter Tryz.func55,Tryz.ntmps55
 go_wp2_with fail
 go_loop [3,4] (fun t i=>∃ k:Nat,k≤60∧i=.int .i64 k∧t=.int .i64 (cw S k:Nat)) (fun _ i=>60 - (intOf i).toNat)
 case atStart=>exact⟨0,by omega,rfl,rfl⟩
 case round=>
  obtain⟨k,hk,rfl,rfl⟩:=hrel
  have hle:=pj S k
  by_cases hlt:k<60
  ·have d0:=HM.out k hlt
   have HSU:Hid (cw S (k+1)=cw S k+(if iR (S.wr k) then 1 else 0)):=af rfl
   obtain⟨m,hm⟩:∃ m,m=cw S k:=⟨_,rfl⟩
   rw[←hm] at hle HSU
   rw[←hm]
   clear hm
   cases hw:iR (S.wr k) with
   |true=>
    rw[hw] at d0 HSU
    clear hw
    go_wp2
    go_round
    case rel=>exact⟨k+1,by omega,by go_num,by rw[HSU.out];go_num⟩
    case measure=>simp[intOf];omega
   |false=>
    rw[hw] at d0 HSU
    clear hw
    go_wp2
    go_round
    case rel=>exact⟨k+1,by omega,by go_num,by rw[HSU.out];rfl⟩
    case measure=>simp[intOf];omega
  ·have e:k=60:=by omega
   subst e
   go_wp2
   go_ret
   exact⟨rfl,rfl⟩
theorem CK:(Tryz.prog.info? 77).map (·.size)=some 240:=by kernel_rfl
theorem Di {x k:Nat} (hk:k<8) {X:ap} {w:World} {f:List Nat} (h:aV x X w f) (hn:f.Nodup) :
  (storeCells ⟨x,3+k*244,none⟩ Tryz.zeroCells82.toList 0).run Tryz.prog w=.ok () (w.setCells x (3+k*244) Tryz.zeroCells82.toList)∧cL (aV x (X.setSes k .zero)) f w (w.setCells x (3+k*244) Tryz.zeroCells82.toList):=by
 obtain⟨kv,hk0⟩:=h
 have hP:=hk0.1
 have hlay:=hP.lay hk .zero tq
 rw[←iV] at hlay
 exact⟨gg (P:=Tryz.prog) w x (3+k*244) Tryz.zeroCells82.toList (by rw[iV,b6];exact hP.there hk) (by rw[iV];exact kw _),gL.to (X':=X.setSes k .zero) hk0 hn rfl hlay⟩
theorem mj (wr:List Wr) (n:Nat):(cD wr n).length≤n:=by
 have:=List.length_filterMap_le (cT wr) (List.range n)
 simpa [cD] using this
theorem vy (S:br) (p:Value) (fp:List Nat) (w:World) (hses:eA p S w fp) (hwl:S.wr.length≤9223372036854775806) :
  Calls Tryz.prog 58 #[p] w fun e w'=>∃ v,e=.returned v∧w'.ownsRow w.heap.size 107 2 v (aP S.wr).length (aO (aP S.wr))∧w.grownBy w' none:=by
 obtain⟨i0,hi0,hz0,hz1,hz2⟩:=info_parts Tryz.info107
 obtain⟨g1,a1,m1,c1,a2,m2,c2,rfl,hb1,hown1,_,_⟩:=hses.open
 have em1:=ar hown1
 subst em1
 have hg1l:=lt_of_block hb1
 have HB1:=af hb1
 have HO1:=af hown1
 clear hses hb1 hown1
 go_enter Tryz.func58,Tryz.ntmps58
 go_wp2_with fail
 go_loopw [3,4] (fun v t wr=>∃ k:Nat,k≤60∧t=.int .i64 k∧wr.ownsRow w.heap.size 107 2 v (cD S.wr k).length (aO (cD S.wr k))∧w.grownBy wr none) (fun _ t _=>60 - (intOf t).toNat)
 case atStart=>exact⟨0,by omega,rfl,World.ownsRow_nil _ _ _ _,ag _ _⟩
 case round=>
  obtain⟨k,hk,rfl,hown,hg⟩:=hrel
  by_cases hlt:k<60
  ·have HCE:=af (ul k wr hlt)
   have HNS:=af (kr S.wr k)
   have hnl:=mj S.wr k
   go_wp2_with fail
   go_at_call 84
   refine HCE.out.mono ?_
   rintro e w1 ⟨rfl,hg1⟩
   have hg01:=ae hg hg1
   have hb2:=(hg01.block g1 hg1l (by simp)).trans HB1.out
   have d2:w1.cell? ⟨g1,2,none⟩=some (.slice a1 S.wr.length c1):=by rw[cell_of_row _ _ _ _ _ _ hb2];rfl
   have hor:=aq HO1.out hg01 (fun g hg=>by cases hg)
   have HLA:=af (nm S.wr (aw k) a1 S.wr.length c1 0 w1 (by omega) hor)
   have hown2:=aq hown hg1 (fun g hg=>by cases hg)
   have hsz:=hg01.size
   obtain⟨ct,hct⟩:∃ ct,ct=aw k:=⟨_,rfl⟩
   have HNA:Hid (cT S.wr k=(bd ct S.wr).map fun j=>S.wr.getD j (ByteArray.empty,0)):=af (by rw[hct];rfl)
   rw[←hct] at HLA ⊢
   clear hct HCE hb2 hown hg hg1
   cases hla:bd ct S.wr with
   |none=>
    have e2:eQ S.wr ct=-1:=by unfold eQ;rw[hla]
    rw[e2] at HLA
    have HF':Hid (cD S.wr (k+1)=cD S.wr k):=af (by rw[HNS.out,HNA.out,hla];simp)
    clear hla e2 hor
    go_wp2_with fail
    go_at_call 87
    refine HLA.out.mono ?_
    rintro e w2 ⟨rfl,rfl⟩
    go_wp2
    go_roundw
    case rel=>exact⟨k+1,by omega,by go_num,by rw[HF'.out];exact hown2,hg01⟩
    case measure=>simp[intOf];omega
   |some j=>
    have hj:=fO hla
    have e2:eQ S.wr ct=j:=by unfold eQ;rw[hla]
    rw[e2] at HLA
    have hjd:S.wr.getD j (ByteArray.empty,0)=S.wr[j]:=by simp[List.getD,hj]
    have HF':Hid (cD S.wr (k+1)=cD S.wr k++[S.wr[j]]):=af (by rw[HNS.out,HNA.out,hla];simp[hj])
    obtain⟨g2,rfl,_,hgb,hgl,hcell⟩:=aC hor (by omega)
    have x0:=hcell _ _ (dD S.wr j hj).1
    have x1:=hcell _ _ (dD S.wr j hj).2
    obtain⟨p0,hp0⟩:∃ p0,p0=S.wr[j]:=⟨_,rfl⟩
    rw[←hp0] at x0 x1 HF'
    clear hla e2 hor hjd hcell hp0
    go_wp2_with fail
    go_at_call 87
    refine HLA.out.mono ?_
    rintro e w2 ⟨rfl,rfl⟩
    go_wp2_with (first|(at_builtin;refine wpList_append_own _ rfl (.tmp 21) (.tmp 29) 97 rfl (w.heap.size) 107 i0 (.agg #[.string ByteArray.empty,.int .i64 0]) 2 24 Tryz.underlying97 hi0 hz0 hz1 hz2 rfl (by decide) _ _ _ rfl (hown2.alloc _) _ 1 1 [.string p0.1,.int .i64 p0.2] rfl rfl (fun j u hj=>bj hj) (fun u hu=>by simp at hu;rcases hu with h|h <;> subst h <;> rfl) (by unfold maxLen;omega) (by omega) (by simp;omega) ?_))
    intro v' w3 hown3 hg3 _
    have hown3':w3.ownsRow w.heap.size 107 2 v' (cD S.wr (k+1)).length (aO (cD S.wr (k+1))):=by rw[HF'.out,j8];simpa using hown3
    have hg3':w.grownBy w3 none:=aK (ab hg01 _) hg3 (fun g hg=>(hown2.lt g hg).1)
    clear hown3 hg3 hown2 hg01
    go_wp2
    go_roundw
    case rel=>exact⟨k+1,by omega,by go_num,hown3',hg3'⟩
    case measure=>simp[intOf];omega
  ·have e:k=60:=by omega
   subst e
   go_wp2
   go_ret
   exact⟨_,rfl,hown,hg⟩
theorem sO {w:World} {g:Nat} {x0 x1 x2 x3 x4 x5 u:Value} {t:TypeId} (h:w.heap[g]?=some (.cells #[x0,x1,x2,x3,x4,x5] t (0,0))):(w.setCell ⟨g,2,none⟩ u).heap[g]?=some (.cells #[x0,x1,u,x3,x4,x5] t (0,0)):=by
 obtain⟨hl,e⟩:=Array.getElem?_eq_some_iff.mp h
 simp[World.setCell,hl,Array.getElem_modify,e]
theorem nr {w:World} {g:Nat} {x0 x1 x2 x3 x4 x5 u:Value} {t:TypeId} (h:w.heap[g]?=some (.cells #[x0,x1,x2,x3,x4,x5] t (0,0))):(w.setCell ⟨g,3,none⟩ u).heap[g]?=some (.cells #[x0,x1,x2,u,x4,x5] t (0,0)):=by
 obtain⟨hl,e⟩:=Array.getElem?_eq_some_iff.mp h
 simp[World.setCell,hl,Array.getElem_modify,e]
theorem bJ.within0 {Q:Value→eV} (hQ:∀ v,bX (Q v)) (y:Nat) (E:bk):bX (bJ Q y E):=by
 rintro w f ⟨rv,cv,kv,ov,cs,ps,h⟩
 exact bY.within (e7.within _ _ _) (bY.within (hQ rv) (bY.within (bn.within _ _ _ _ _) (bY.within (aA.within (fun _ _=>bn.within _ _ _ _ _) _ _) (bY.within (bn.within _ _ _ _ _) (bY.within (bn.within _ _ _ _ _) (aA.within eA.within _ _)))))) h
theorem Dj {A f7 fv C:List Nat}:(A++((f7++fv)++C)).Perm ((A++(f7++C))++fv):=by
 rw[List.append_assoc A]
 apply List.Perm.append_left
 rw[List.append_assoc,List.append_assoc]
 exact List.Perm.append_left f7 List.perm_append_comm
theorem bJ.comGrow {Q:Value→eV} (hQ:∀ v,bS (Q v)) (hQw:∀ v,bX (Q v)) {y:Nat} {E:bk} {w:World} {f:List Nat} (hE:bJ Q y E w f) (hn:f.Nodup) :
  ∃ rv cv kv ov cs,w.heap[y]?=some (.cells #[rv,.int .i64 E.room,cv,kv,ov,.int .i64 E.opened] 40 (0,0))∧w.ownsRow 0 97 1 cv E.com.length cs∧w.ownsRow 0 124 3 kv E.kept.length (cX E.kept)∧(∀ x∈y::cv.ownBlock.toList,x∈f)∧
    ∀ (l:List Wr) (v:Value) (fv:List Nat) (g3 c':Nat) (w3 w':World),bn 107 2 v l.length (aO l) w fv→(∀ x∈fv,x∉f)→fv.Nodup→(cv.ownBlock=some g3∨w.heap.size≤g3)→w3.ownsRow 0 97 1 (.slice (some ⟨g3,0,none⟩) (E.com.length+1) c') (E.com.length+1) (cs++[v])→
      Fr cv.ownBlock.toList w w3→w'.heap=(w3.setCell ⟨y,2,none⟩ (.slice (some ⟨g3,0,none⟩) (E.com.length+1) c')).heap→Fr (y::cv.ownBlock.toList) w w'→
      ∃ f',bJ Q y { E with com:=E.com++[l] } w' f'∧f'.Nodup∧∀ x∈f',x∈f∨x∈fv∨w.heap.size≤x:=by
 have hwi:=bJ.within0 hQw y E hE
 obtain⟨rv,cv,kv,ov,cs,ps,f1,f2,⟨hb,rfl⟩,⟨f3,f4,hq,⟨f5,f6,⟨hcr,rfl⟩,⟨f7,f8,hcom,⟨f9,f10,hkr,⟨f11,f12,hor,hses,rfl⟩,rfl⟩,rfl⟩,rfl⟩,rfl⟩,rfl⟩:=hE
 refine⟨rv,cv,kv,ov,cs,hb,hcr,hkr.1,fun x hx=>by simp at hx ⊢;rcases hx with h|h <;> simp[h],?_⟩
 intro l v fv g3 c' w3 w' hv hvf hvn hg3 hv3 hf3 hw' hfr
 have hvl:=bn.within _ _ _ _ _ hv
 have hyl:=lt_of_block hb
 have hdis:∀ x,x∈f3∨x∈f7∨x∈f9∨x∈f11∨x∈f12∨x∈fv→x∉y::cv.ownBlock.toList:=by
  simp only[List.nodup_append,List.mem_append,List.mem_singleton] at hn
  simp only[List.mem_append,List.mem_singleton] at hvf
  intro x hx hx2
  simp only[List.mem_cons] at hx2
  grind
 have hy3:w3.heap[y]?=some (.cells #[rv,.int .i64 E.room,cv,kv,ov,.int .i64 E.opened] 40 (0,0)):=(hf3.block y hyl (fun e=>by
  simp only[List.nodup_append,List.mem_append,List.mem_singleton] at hn
  grind)).trans hb
 have hy4:w'.heap[y]?=some (.cells #[rv,.int .i64 E.room,.slice (some ⟨g3,0,none⟩) (E.com.length+1) c',kv,ov,.int .i64 E.opened] 40 (0,0)):=by rw[hw'];exact sO hy3
 have hv4:=du (ownsRow_setCell_other hv3 (aS hv3 hy3 (by decide)) (.slice (some ⟨g3,0,none⟩) (E.com.length+1) c')) hw'
 have hC2:aA ik (cs++[v]) (E.com++[l]) w' (f7++fv):=aA.snoc (P:=ik) (bn.framed _ _ _ _ _ hv hfr (fun x hx=>hdis x (by simp[hx]))) (aA.framed ik.framed _ _ hcom hfr (fun x hx=>hdis x (by simp[hx])))
 refine⟨[y]++(f3++([g3]++((f7++fv)++(f9++(f11++f12))))),⟨rv,_,kv,ov,_,ps,[y],_,⟨hy4,rfl⟩,⟨f3,_,hQ rv hq hfr (fun x hx=>hdis x (by simp[hx])),⟨[g3],_,⟨?_,rfl⟩,⟨f7++fv,_,hC2,⟨f9,_,bn.framed _ _ _ _ _ hkr hfr (fun x hx=>hdis x (by simp[hx])),⟨f11,f12,bn.framed _ _ _ _ _ hor hfr (fun x hx=>hdis x (by simp[hx])),aA.framed eA.framed _ _ hses hfr (fun x hx=>hdis x (by simp[hx])),rfl⟩,rfl⟩,rfl⟩,rfl⟩,rfl⟩,rfl⟩,?_,?_⟩
 ·simp only[List.length_append,List.length_cons,List.length_nil]
  exact hv4
 ·have hg4:g3∈cv.ownBlock.toList∨w.heap.size≤g3:=by
   rcases hg3 with h|h
   ·exact .inl (by rw[h];simp)
   ·exact .inr h
  have hn3:(([y]++f3)++(cv.ownBlock.toList++(f7++(f9++(f11++f12))))).Nodup:=by simpa only [List.append_assoc] using hn
  have hn4:=eb (g':=[g3]) hn3 (fun x hx=>hwi x (by simpa only [List.append_assoc] using hx)) (by simp) (fun x hx=>by simp only[List.mem_singleton] at hx;subst hx;exact hg4)
  have hn5:((([y]++f3)++[g3])++((f7++fv)++(f9++(f11++f12)))).Nodup:=by
   rw[Dj.nodup_iff,List.nodup_append]
   refine⟨by simpa only [List.append_assoc] using hn4,hvn,?_⟩
   rintro a ha b hb rfl
   have h1:=hvl a hb
   have h2:=hvf a hb
   simp only[List.mem_append,List.mem_singleton] at ha h2
   have h3:a=g3→a∈cv.ownBlock.toList:=fun e=>by
    subst e
    rcases hg4 with h|h
    ·exact h
    ·omega
   grind
  simpa only [List.append_assoc] using hn5
 ·intro x hx
  have hg4:x=g3→x∈cv.ownBlock.toList∨w.heap.size≤x:=by
   rintro rfl
   rcases hg3 with h|h
   ·exact .inl (by rw[h];simp)
   ·exact .inr h
  simp only[List.mem_append,List.mem_singleton] at hx ⊢
  grind
theorem bJ.keptGrow {Q:Value→eV} (hQ:∀ v,bS (Q v)) (hQw:∀ v,bX (Q v)) {y:Nat} {E:bk} {w:World} {f:List Nat} (hE:bJ Q y E w f) (hn:f.Nodup) :
  ∃ rv cv kv ov cs,w.heap[y]?=some (.cells #[rv,.int .i64 E.room,cv,kv,ov,.int .i64 E.opened] 40 (0,0))∧w.ownsRow 0 97 1 cv E.com.length cs∧w.ownsRow 0 124 3 kv E.kept.length (cX E.kept)∧(∀ x∈y::kv.ownBlock.toList,x∈f)∧
    ∀ (q:Int×Wr) (g3 c':Nat) (w3 w':World),(kv.ownBlock=some g3∨w.heap.size≤g3)→w3.ownsRow 0 124 3 (.slice (some ⟨g3,0,none⟩) (E.kept.length+1) c') (E.kept.length+1) (cX E.kept++[.int .i64 q.1,.string q.2.1,.int .i64 q.2.2])→
      Fr kv.ownBlock.toList w w3→w'.heap=(w3.setCell ⟨y,3,none⟩ (.slice (some ⟨g3,0,none⟩) (E.kept.length+1) c')).heap→Fr (y::kv.ownBlock.toList) w w'→
      ∃ f',bJ Q y { E with kept:=E.kept++[q] } w' f'∧f'.Nodup∧∀ x∈f',x∈f∨w.heap.size≤x:=by
 have hwi:=bJ.within0 hQw y E hE
 obtain⟨rv,cv,kv,ov,cs,ps,f1,f2,⟨hb,rfl⟩,⟨f3,f4,hq,⟨f5,f6,hcr,⟨f7,f8,hcom,⟨f9,f10,⟨hkr,rfl⟩,⟨f11,f12,hor,hses,rfl⟩,rfl⟩,rfl⟩,rfl⟩,rfl⟩,rfl⟩:=hE
 refine⟨rv,cv,kv,ov,cs,hb,hcr.1,hkr,fun x hx=>by simp at hx ⊢;rcases hx with h|h <;> simp[h],?_⟩
 intro q g3 c' w3 w' hg3 hv3 hf3 hw' hfr
 have hyl:=lt_of_block hb
 have hdis:∀ x,x∈f3∨x∈f5∨x∈f7∨x∈f11∨x∈f12→x∉y::kv.ownBlock.toList:=by
  simp only[List.nodup_append,List.mem_append,List.mem_singleton] at hn
  intro x hx hx2
  simp only[List.mem_cons] at hx2
  grind
 have hy3:w3.heap[y]?=some (.cells #[rv,.int .i64 E.room,cv,kv,ov,.int .i64 E.opened] 40 (0,0)):=(hf3.block y hyl (fun e=>by
  simp only[List.nodup_append,List.mem_append,List.mem_singleton] at hn
  grind)).trans hb
 have hy4:w'.heap[y]?=some (.cells #[rv,.int .i64 E.room,cv,.slice (some ⟨g3,0,none⟩) (E.kept.length+1) c',ov,.int .i64 E.opened] 40 (0,0)):=by rw[hw'];exact nr hy3
 have hv4:=du (ownsRow_setCell_other hv3 (aS hv3 hy3 (by decide)) (.slice (some ⟨g3,0,none⟩) (E.kept.length+1) c')) hw'
 refine⟨[y]++(f3++(f5++(f7++([g3]++(f11++f12))))),⟨rv,cv,_,ov,cs,ps,[y],_,⟨hy4,rfl⟩,⟨f3,_,hQ rv hq hfr (fun x hx=>hdis x (by simp[hx])),⟨f5,_,bn.framed _ _ _ _ _ hcr hfr (fun x hx=>hdis x (by simp[hx])),⟨f7,_,aA.framed ik.framed _ _ hcom hfr (fun x hx=>hdis x (by simp[hx])),⟨[g3],_,⟨?_,rfl⟩,⟨f11,f12,bn.framed _ _ _ _ _ hor hfr (fun x hx=>hdis x (by simp[hx])),aA.framed eA.framed _ _ hses hfr (fun x hx=>hdis x (by simp[hx])),rfl⟩,rfl⟩,rfl⟩,rfl⟩,rfl⟩,rfl⟩,?_,?_⟩
 ·have e:cX (E.kept++[q])=cX E.kept++[.int .i64 q.1,.string q.2.1,.int .i64 q.2.2]:=by simp[cX]
  simp only[List.length_append,List.length_cons,List.length_nil]
  rw[e]
  exact hv4
 ·have hg4:g3∈kv.ownBlock.toList∨w.heap.size≤g3:=by
   rcases hg3 with h|h
   ·exact .inl (by rw[h];simp)
   ·exact .inr h
  have hn3:(([y]++(f3++(f5++f7)))++(kv.ownBlock.toList++(f11++f12))).Nodup:=by simpa only [List.append_assoc] using hn
  have hn4:=eb (g':=[g3]) hn3 (fun x hx=>hwi x (by simpa only [List.append_assoc] using hx)) (by simp) (fun x hx=>by simp only[List.mem_singleton] at hx;subst hx;exact hg4)
  simpa only [List.append_assoc] using hn4
 ·intro x hx
  have hg4:x=g3→x∈kv.ownBlock.toList∨w.heap.size≤x:=by
   rintro rfl
   rcases hg3 with h|h
   ·exact .inl (by rw[h];simp)
   ·exact .inr h
  simp only[List.mem_append,List.mem_singleton] at hx ⊢
  grind
theorem Fr.then {f S:List Nat} {w w1 w2:World} (h:Fr f w w1) (k:Fr S w1 w2) (hs:∀ x∈S,x∈f∨w.heap.size≤x):Fr f w w2:=
 ⟨k.os.trans h.os,k.tape.trans h.tape,k.output.trans h.output,Nat.le_trans h.size k.size,fun i hi hf=>(k.block i (Nat.lt_of_lt_of_le hi h.size) (fun e=>by rcases hs i e with h|h;exact hf h;omega)).trans (h.block i hi hf)⟩
theorem gi.back {Q:Value→eV} {y:Nat} {E:bk} {f:List Nat} {w w0 w':World} (h:gi Q y E f w0 w') (hf:Fr [] w w0):gi Q y E f w w':=by
 obtain⟨f',a,n,s,r⟩:=h
 refine⟨f',a,n,fun k hk=>?_,(hf.mono (fun k hk=>by cases hk)).trans r⟩
 rcases s k hk with h|h
 ·exact .inl h
 ·exact .inr (Nat.le_trans hf.size h)
theorem iF {w w':World} (h:Fr [] w w') {b i:Nat} {v:Value} (hc:w.cell? ⟨b,i,none⟩=some v):w'.cell? ⟨b,i,none⟩=some v:=by
 have hb:=World.block_lt_of_cell? w _ hc
 rw[←hc]
 simp only[World.cell?,h.block b hb (by simp)]
theorem Fr.drew0 {w w':World} (h:Fr [] w w'):Fr [] w w'.drew:=h.drewN 1
theorem Tryz.info97:(Tryz.prog.info? 97).map (fun i=>(i.zero,i.size,i.bytes))=some (some (.slice none 0 0),1,24):=by kernel_rfl
theorem Tryz.info124:(Tryz.prog.info? 124).map (fun i=>(i.zero,i.size,i.bytes))=some (some (.agg #[.int .i64 0,.string ByteArray.empty,.int .i64 0]),3,32):=by kernel_rfl
def E2 (E:bk) (l:List Wr) (i:Nat):bk:={ E with com:=E.com++[l],kept:=E.kept++(l.take i).map (fun p=>((E.com.length:Int)+1,p)) }
theorem yT (E:bk) (l:List Wr):E2 E l 0={ E with com:=E.com++[l] }:=by simp[E2]
theorem C2 (E:bk) (l:List Wr) {i:Nat} (h:l.length≤i):E2 E l i=E.commit l:=by simp[E2,bk.commit,List.take_of_length_le h]
theorem Fc (E:bk) (l:List Wr) {i:Nat} (h:i<l.length):E2 E l (i+1)={ E2 E l i with kept:=(E2 E l i).kept++[((E.com.length:Int)+1,l[i])] }:=by
 unfold E2
 rw[List.take_succ_eq_append_getElem h,List.map_append,←List.append_assoc]
 rfl
def jZ (Q:Value→eV) (y:Nat) (E:bk) (l:List Wr) (v:Value) (f:List Nat) (w:World) (i:Nat) (wr:World) (f5:List Nat):Prop:=
 bJ Q y (E2 E l i) wr f5∧f5.Nodup∧(∀ x∈f5,x∈f∨w.heap.size≤x)∧Fr f w wr∧wr.ownsRow 0 107 2 v l.length (aO l)
theorem jZ.next {Q:Value→eV} (hQ:∀ v,bS (Q v)) (hQw:∀ v,bX (Q v)) {y:Nat} {E:bk} {l:List Wr} {v:Value} {f:List Nat} {w:World} {i:Nat} {wr:World} {f5:List Nat} (h:jZ Q y E l v f w i wr f5) (hlt:i<l.length) :
  ∃ rv ac cc ak ck ov cs,wr.heap[y]?=some (.cells #[rv,.int .i64 E.room,.slice ac (E.com.length+1) cc,.slice ak (E.kept.length+i) ck,ov,.int .i64 E.opened] 40 (0,0))∧wr.ownsRow 0 124 3 (.slice ak (E.kept.length+i) ck) (E.kept.length+i) cs∧
    ∀ (g5 c5:Nat) (w5:World),((Value.slice ak (E.kept.length+i) ck).ownBlock=some g5∨wr.heap.size≤g5)→w5.ownsRow 0 124 3 (.slice (some ⟨g5,0,none⟩) (E.kept.length+i+1) c5) (E.kept.length+i+1) (cs++[.int .i64 ((E.com.length:Int)+1),.string l[i].1,.int .i64 l[i].2])→Fr (Value.slice ak (E.kept.length+i) ck).ownBlock.toList wr w5→
      ∃ f6,jZ Q y E l v f w (i+1) (w5.setCell ⟨y,3,none⟩ (.slice (some ⟨g5,0,none⟩) (E.kept.length+i+1) c5)) f6:=by
 obtain⟨hE5,hn5,hs5,hfr5,hv5⟩:=h
 have hkl:(E2 E l i).kept.length=E.kept.length+i:=by simp[E2];omega
 have hcl:(E2 E l i).com.length=E.com.length+1:=by simp[E2]
 obtain⟨rv,cv,kv,ov,cs0,yb,ycr,ykr,yin,ygo⟩:=bJ.keptGrow hQ hQw hE5 hn5
 obtain⟨ac,mc,cc,rfl⟩:=an ycr
 obtain⟨ak,mk,ck,rfl⟩:=an ykr
 have em:=ar ycr
 have ek:=ar ykr
 rw[hcl] at em
 rw[hkl] at ek
 subst em
 subst ek
 rw[hkl] at ykr ygo
 refine⟨rv,ac,cc,ak,ck,ov,cX (E2 E l i).kept,yb,ykr,?_⟩
 intro g5 c5 w5 hg5 hown5 hfr
 have hfr6:Fr (y::(Value.slice ak (E.kept.length+i) ck).ownBlock.toList) wr (w5.setCell ⟨y,3,none⟩ (.slice (some ⟨g5,0,none⟩) (E.kept.length+i+1) c5)):=(hfr.mono (fun k hk=>.inl (by simp at hk ⊢;exact .inr hk))).set (.inl (by simp)) _
 obtain⟨f6,a,nn,s⟩:=ygo ((E.com.length:Int)+1,l[i]) g5 c5 w5 _ hg5 hown5 hfr rfl hfr6
 refine⟨f6,by rw[Fc E l hlt];exact a,nn,fun x hx=>?_,?_,?_⟩
 ·rcases s x hx with h|h
  ·exact hs5 x h
  ·exact .inr (Nat.le_trans hfr5.size h)
 ·exact hfr5.then hfr6 (fun k hk=>hs5 k (yin k hk))
 ·have hne:∀ x∈v.ownBlock.toList,x∉y::(Value.slice ak (E.kept.length+i) ck).ownBlock.toList:=by
   intro x hx e
   have hxv:v.ownBlock=some x:=by
    cases hb:v.ownBlock with
    |none=>rw[hb] at hx;cases hx
    |some z=>rw[hb] at hx;simp at hx;rw[hx]
   obtain⟨cs1,h1⟩:=fu hv5 x hxv
   rcases List.mem_cons.mp e with e|e
   ·subst e
    rw[yb] at h1
    simp at h1
   ·have hxk:(Value.slice ak (E.kept.length+i) ck).ownBlock=some x:=by
     cases hb:(Value.slice ak (E.kept.length+i) ck).ownBlock with
     |none=>rw[hb] at e;cases e
     |some z=>rw[hb] at e;simp at e;rw[e]
    obtain⟨cs2,h2⟩:=fu ykr x hxk
    rw[h2] at h1
    simp at h1
  exact (bn.framed _ _ _ _ _ ⟨hv5,rfl⟩ hfr6 hne).1
end Go.Proofs.YthlhbjnkohinmaaGreat
