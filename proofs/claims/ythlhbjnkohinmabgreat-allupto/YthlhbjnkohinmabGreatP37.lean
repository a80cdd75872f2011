import Derived.Test.YthlhbjnkohinmabGreatP36
namespace Go.Proofs.YthlhbjnkohinmabGreat
set_option maxRecDepth 100000
set_option maxHeartbeats 8000000
open Go.RowKit
theorem Tryz.infoX:(Tryz.prog.info? 220).map (fun i=>(i.zero,i.size,i.bytes))=some (some (.agg #[.int .i64 0,.bool false,.int .i64 0]),3,24):=by kernel_rfl
theorem nh {w:World}{B:Nat}{e t:TypeId}{size:Nat}{v:Value}{n:Nat}{xs:List Value}{g:Nat}{cs:Array Value}(h:w.ownsRow B e size v n xs)(hb:w.heap[g]?=some (.cells cs t (0,0)))(ht:e≠t)(i:Nat)(u:Value):(w.setCell ⟨g,i,none⟩ u).ownsRow B e size v n xs:=
 aq h (aj (ag w (some g)) (.inl rfl) u) (fun g' hg=>by
  cases hg
  exact⟨cs,t,hb,ht⟩)
def pa (w:World)(o:Option (List (Nat×Option Int)×Bool))(e:Ending)(w':World):Prop:=match o with
 |some q=>∃ v,e=.returned (.tuple #[.agg #[v,.bool q.2],.bool true])∧w'.ownsRow w.heap.size 220 3 v q.1.length (Db q.1)
 |none=>e=.returned (.tuple #[.agg #[.slice none 0 0,.bool false],.bool false])
theorem Bi (s:ByteArray)(R:List ay)(ra:Option Addr)(rc B:Nat)(wt:Int)(i:In)(w:World)(hr:i.rule<R.length)(hrow:bS w B s (.slice ra R.length rc) R)(hK:∀ p∈R[i.rule].2.2,cU s p=true)(hKl:R[i.rule].2.2.length≤400)(he:∀ n v,i.env n=some v→0≤v∧v≤9):
  Calls Tryz.prog 90 #[.slice ra R.length rc,.agg (aG wt i).toArray] w fun e w'=>pa w (gi s i.env R[i.rule].2.2) e w'∧w.grownBy w' none:=by
 obtain⟨i0,hi0,hz0,hz1,hz2⟩:=info_parts Tryz.infoX
 obtain⟨xs0,hrow1,hpar⟩:=hrow
 obtain⟨a1,m1,c1,a2,m2,c2,x0,x1,x2,o1,o2⟩:=jP R xs0 hpar i.rule hr
 have em2:=ar o2
 subst em2
 obtain⟨gr,hra,_,_,hgr,hrcell⟩:=aC hrow1 (by omega)
 subst hra
 obtain⟨K,hKK⟩:∃ K,K=R[i.rule].2.2:=⟨_,rfl⟩
 rw[←hKK] at x2 o2 hK hKl ⊢
 obtain⟨L,hL⟩:∃ L,L=aG wt i:=⟨_,rfl⟩
 rw[←hL]
 have hLl:L.length=24:=by rw[hL];rfl
 obtain⟨D,hD⟩:∃ D,D=L.drop 16:=⟨_,rfl⟩
 have hDD:D=oo i.env:=by rw[hD,hL];rfl
 have hDl:D.length=8:=by rw[hD];simp[hLl]
 have HID:Hid ((Tryz.prog.info? 173).map (·.size)=some D.length):=af (by rw[hDl];exact gA)
 have HDR:Hid (∀ W:World,W.heap[w.heap.size]?=some (.cells L.toArray 175 (0,0))→W.rangeAt w.heap.size 16 D):=af (fun W h=>bX h (fun j v hv=>by rw[hD,List.getElem?_drop] at hv;exact hv))
 have hb0:(((w.alloc (.cells L.toArray 175)).alloc (.cells #[.slice none 0 0,.bool false] 186)).alloc (.cells #[.slice none 0 0,.bool false] 186)).heap[w.heap.size]?=some (.cells L.toArray 175 (0,0)):=by
  rw[Below.heap_alloc _ _ _ (by simp;omega),Below.heap_alloc _ _ _ (by simp)]
  exact heap_alloc_new w _
 have hb1:(((w.alloc (.cells L.toArray 175)).alloc (.cells #[.slice none 0 0,.bool false] 186)).alloc (.cells #[.slice none 0 0,.bool false] 186)).heap[w.heap.size+1]?=some (.cells #[.slice none 0 0,.bool false] 186 (0,0)):=by
  rw[Below.heap_alloc _ _ _ (by simp)]
  exact bn (by simp)
 have hb2:(((w.alloc (.cells L.toArray 175)).alloc (.cells #[.slice none 0 0,.bool false] 186)).alloc (.cells #[.slice none 0 0,.bool false] 186)).heap[w.heap.size+1+1]?=some (.cells #[.slice none 0 0,.bool false] 186 (0,0)):=bn (by simp)
 obtain⟨rl,hrl⟩:∃ rl,rl=i.rule:=⟨_,rfl⟩
 rw[←hrl] at x2 hr
 have k0:(((w.alloc (.cells L.toArray 175)).alloc (.cells #[.slice none 0 0,.bool false] 186)).alloc (.cells #[.slice none 0 0,.bool false] 186)).cell? ⟨w.heap.size,0,none⟩=some (.int .i64 rl):=bc hb0 (by rw[hL,hrl];rfl)
 have hgw:w.grownBy (((w.alloc (.cells L.toArray 175)).alloc (.cells #[.slice none 0 0,.bool false] 186)).alloc (.cells #[.slice none 0 0,.bool false] 186)) none:=ab (ab (ab (ag _ _) _) _) _
 have d2:(((w.alloc (.cells L.toArray 175)).alloc (.cells #[.slice none 0 0,.bool false] 186)).alloc (.cells #[.slice none 0 0,.bool false] 186)).cell? ⟨gr,rl*3+2,none⟩=some (.slice a2 K.length c2):=am hgw (hrcell _ _ x2)
 have HEF:Hid (∀ (j:Nat) (hj:j<K.length) (W:World),bt s K[j]≠46→Calls Tryz.prog 112 #[.agg D.toArray,.agg (xB s K[j]).toArray] W fun r w'=>(∃ v,r=.returned v∧DL s i.env K[j] v)∧W.grownBy w' none):=af (fun j hj W h46=>by
  rw[hDD]
  exact wq s i.env K[j] W (hK _ (List.getElem_mem hj)) h46 he)
 have HK46:Hid (∀ (j:Nat) (hj:j<K.length),(bt s K[j]=46→(ed s K[j]).k=3)∧(bt s K[j]≠46→(ed s K[j]).k=1∨(ed s K[j]).k=2)):=af (fun j hj=>by
  have hok:=hK _ (List.getElem_mem hj)
  unfold cU at hok
  unfold ed
  refine⟨fun h=>by rw[if_neg (by omega),if_neg (by omega)],fun h=>?_⟩
  by_cases h43:bt s K[j]=43
  ·rw[if_pos h43];exact .inl rfl
  ·rw[if_neg h43] at hok ⊢
   by_cases h45:bt s K[j]=45
   ·rw[if_pos h45];exact .inr rfl
   ·rw[if_neg h45] at hok
    simp at hok
    exact absurd hok h)
 have HOT:=af (oe s i.env K)
 have HON:=af (Bk s i.env K)
 have HOL:=af (li s i.env K)
 have HAR:=af o2
 have HB0:=af hb0
 have HB1:=af hb1
 have HB2:=af hb2
 have HGW:=af hgw
 have hgz:gr≠w.heap.size:=by omega
 have hri:(rl:Int)<(R.length:Int):=by omega
 have hr0:(0:Int)≤(rl:Int):=by omega
 obtain⟨env,henv⟩:∃ env,env=i.env:=⟨_,rfl⟩
 rw[←henv] at HEF HOT HON HOL ⊢
 clear hb0 hb1 hb2 hgw o1 o2 x0 x1 x2 hrcell hrow1 hpar hK hL hD hDD he henv hrl hKK
 go_enter Tryz.func90,Tryz.ntmps90
 go_wp2_with fail
 generalize (((w.alloc (.cells L.toArray 175)).alloc (.cells #[.slice none 0 0,.bool false] 186)).alloc (.cells #[.slice none 0 0,.bool false] 186))=WA at k0 d2 HB0 HB1 HB2 HGW ⊢
 go_loopw [29] (fun t wr=>∃ j:Nat,j≤K.length∧t=.int .i64 j∧∃ ws h v,gi s env (K.take j)=some (ws,h)∧wr.heap[w.heap.size]?=some (.cells L.toArray 175 (0,0))∧wr.heap[w.heap.size+1]?=some (.cells #[.slice none 0 0,.bool false] 186 (0,0))∧wr.heap[w.heap.size+1+1]?=some (.cells #[v,.bool h] 186 (0,0))∧wr.ownsRow w.heap.size 220 3 v ws.length (Db ws)∧w.grownBy wr none) (fun t _=>K.length - (intOf t).toNat)
 case atStart=>exact⟨0,by omega,rfl,[],false,_,rfl,HB0.out,HB1.out,HB2.out,World.ownsRow_nil _ _ _ _,HGW.out⟩
 case round=>
  obtain⟨j,hj,rfl,ws,h,v,ho,hB0,hB1,hB2,hown,hg⟩:=hrel
  have HG:=af hg
  have HOW:=af hown
  have HO:=af ho
  have HBB0:=af hB0
  have HBB1:=af hB1
  have HBB2:=af hB2
  have l0:=lt_of_block hB0
  have l1:=lt_of_block hB1
  have l2:=lt_of_block hB2
  obtain⟨va,vm,vc,rfl⟩:=an hown
  have em:=ar hown
  subst em
  have q0:wr.cell? ⟨w.heap.size+1+1,0,none⟩=some (.slice va ws.length vc):=by rw[cell_of_row _ _ _ _ _ _ hB2];rfl
  have q1:wr.cell? ⟨w.heap.size+1+1,1,none⟩=some (.bool h):=by rw[cell_of_row _ _ _ _ _ _ hB2];rfl
  have z2:∀ i,wr.frozen? ⟨w.heap.size+1+1,i,none⟩=false:=ai hB2
  have HLT:=af (fun g hg=>(HOW.out.lt g hg).1)
  by_cases hlt:j<K.length
  ·have how:=aq HAR.out hg (fun g hg=>by cases hg)
   obtain⟨ga,rfl,_,_,hgl,hcell⟩:=aC how (by omega)
   obtain⟨A,hA⟩:∃ A,A=xB s K[j]:=⟨_,rfl⟩
   have HRG:Hid (wr.rangeAt ga (j*8) A):=af (by rw[hA];exact eY (f:=xB s) (fun _=>rfl) hcell hlt)
   have hAl:A.length=8:=by rw[hA];rfl
   have HIA:Hid ((Tryz.prog.info? 218).map (·.size)=some A.length):=af (by rw[hAl];kernel_rfl)
   have HONA:Hid (A.toArray.all (·.oneCell')=true):=af (all_oneCell_toArray (by rw[hA];exact Fe _ _))
   have HBN:Hid ((wr.alloc (.cells A.toArray 218)).heap[wr.heap.size]?=some (.cells A.toArray 218 (0,0))):=af (heap_alloc_new wr _)
   have HRA:Hid ((wr.alloc (.cells A.toArray 218)).rangeAt wr.heap.size 0 A):=af (aF HBN.out rfl)
   have HRD:Hid ((wr.alloc (.cells A.toArray 218)).rangeAt w.heap.size 16 D):=af (HDR.out _ ((Below.heap_alloc _ _ _ l0).trans hB0))
   obtain⟨kd,hkd⟩:∃ kd,kd=(ed s K[j]).k:=⟨_,rfl⟩
   have kc:(wr.alloc (.cells A.toArray 218)).cell? ⟨wr.heap.size,0,none⟩=some (.int .i64 kd):=bc HBN.out (by rw[hA,hkd];rfl)
   have HT:=af (HOT.out j hlt)
   have HKD:=af (HK46.out j hlt)
   rw[HO.out] at HT
   rw[←hkd] at HKD
   have HEJ:=af (HEF.out j hlt)
   rw[←hA] at HEJ
   have hne:ga≠wr.heap.size:=by omega
   have n2:w.heap.size+1+1≠wr.heap.size:=by omega
   have n2':=n2.symm
   have HGA:Hid (wr.grownBy (wr.alloc (.cells A.toArray 218)) none):=af (ab (ag _ _) _)
   have hwl:=HOL.out j hj (ws,h) HO.out
   simp only at hwl
   clear hA hkd how hcell hown hg ho
   by_cases h46:bt s K[j]=46
   ·have hk3:kd=3:=HKD.out.1 h46
    subst hk3
    have HN:Hid (gi s env (K.take (j+1))=some (ws,true)):=af (by
     rw[HT.out]
     simp[h46])
    have HNO:Hid (((wr.setCell ⟨w.heap.size+1+1,1,none⟩ (.bool true)).alloc (.cells A.toArray 218)).ownsRow w.heap.size 220 3 (.slice va ws.length vc) ws.length (Db ws)):=af (aq (nh HOW.out hB2 (by decide) 1 (.bool true)) (ab (ag _ none) _) (fun g hg=>by cases hg))
    have HNG:Hid (w.grownBy ((wr.setCell ⟨w.heap.size+1+1,1,none⟩ (.bool true)).alloc (.cells A.toArray 218)) none):=af (ab (aj HG.out (.inr (by show w.heap.size≤w.heap.size+1+1;omega)) _) _)
    have sz:(wr.setCell ⟨w.heap.size+1+1,1,none⟩ (.bool true)).heap.size=wr.heap.size:=by simp[World.setCell]
    have HN0:Hid (((wr.setCell ⟨w.heap.size+1+1,1,none⟩ (.bool true)).alloc (.cells A.toArray 218)).heap[w.heap.size]?=some (.cells L.toArray 175 (0,0))):=af ((Below.heap_alloc _ _ _ (by rw[sz];exact l0)).trans ((jp (by omega)).trans hB0))
    have HN1:Hid (((wr.setCell ⟨w.heap.size+1+1,1,none⟩ (.bool true)).alloc (.cells A.toArray 218)).heap[w.heap.size+1]?=some (.cells #[.slice none 0 0,.bool false] 186 (0,0))):=af ((Below.heap_alloc _ _ _ (by rw[sz];exact l1)).trans ((jp (by omega)).trans hB1))
    have HN2:Hid (((wr.setCell ⟨w.heap.size+1+1,1,none⟩ (.bool true)).alloc (.cells A.toArray 218)).heap[w.heap.size+1+1]?=some (.cells #[.slice va ws.length vc,.bool true] 186 (0,0))):=af ((Below.heap_alloc _ _ _ (by rw[sz];exact l2)).trans (ah hB2 1 _))
    clear hB0 hB1 hB2
    go_wp2_with (first
     |(refine wpList_load_mid rfl 218 (.tmp 31) rfl ga (j*8) rfl A _ HRG.out Tryz.underlying218 rfl HIA.out ?_)
     |(refine az rfl 218 (.tmp 8) (.tmp 32) rfl _ A rfl rfl hAl.symm HIA.out HONA.out ?_))
    go_roundw
    case rel=>exact⟨j+1,by omega,by go_num,ws,true,_,HN.out,HN0.out,HN1.out,HN2.out,HNO.out,HNG.out⟩
    case measure=>simp[intOf];omega
   ·have hk3:(kd==3)=false:=by
     rcases HKD.out.2 h46 with e|e <;> rw[e] <;> rfl
    have HE1:=af (fun W=>HEJ.out W h46)
    clear HKD HEJ
    go_wp2_with (first
     |(refine wpList_load_mid rfl 218 (.tmp 31) rfl ga (j*8) rfl A _ HRG.out Tryz.underlying218 rfl HIA.out ?_)
     |(refine az rfl 218 (.tmp 8) (.tmp 32) rfl _ A rfl rfl hAl.symm HIA.out HONA.out ?_)
     |(refine wpList_load_mid rfl 173 (.tmp 38) rfl w.heap.size 16 rfl D _ HRD.out Tryz.underlying173 rfl HID.out ?_)
     |(refine wpList_load_mid rfl 218 (.tmp 8) rfl wr.heap.size 0 rfl A _ HRA.out Tryz.underlying218 rfl HIA.out ?_))
    go_at_call 112
    refine (HE1.out _).mono ?_
    rintro e w1 ⟨⟨ev,rfl,hev⟩,hg1⟩
    have HG1:Hid (wr.grownBy w1 none):=af (ae HGA.out hg1)
    have b0:=(HG1.out.block _ l0 (by simp)).trans HBB0.out
    have b1:=(HG1.out.block _ l1 (by simp)).trans HBB1.out
    have b2:=(HG1.out.block _ l2 (by simp)).trans HBB2.out
    have s0:=lt_of_block b0
    have s1:=lt_of_block b1
    have s2:=lt_of_block b2
    have hsz1:=HG1.out.size
    clear hg1 HE1 HRG HRA HRD HBN kc q0 q1 z2 hB0 hB1 hB2
    unfold DL at hev
    cases hx:pM s env K[j] with
    |none=>
     rw[hx] at hev
     obtain⟨xc,xb,xd,rfl⟩:=hev
     have HAN:Hid (gi s env K=none):=af (HON.out (j+1) (by rw[HT.out];simp[h46,hx]))
     have y0:w1.cell? ⟨w.heap.size+1,0,none⟩=some (.slice none 0 0):=by rw[cell_of_row _ _ _ _ _ _ b1];rfl
     have y1:w1.cell? ⟨w.heap.size+1,1,none⟩=some (.bool false):=by rw[cell_of_row _ _ _ _ _ _ b1];rfl
     have zy:∀ i,w1.frozen? ⟨w.heap.size+1,i,none⟩=false:=ai b1
     have n1:w.heap.size+1≠w1.heap.size:=by omega
     have n1':=n1.symm
     have HBF:Hid ((((w1.setCell ⟨w.heap.size+1,0,none⟩ (.slice none 0 0)).setCell ⟨w.heap.size+1,1,none⟩ (.bool false)).alloc (.cells #[.int .i64 xc,.bool xb,.int .i64 xd] 220)).heap[w.heap.size+1]?=some (.cells #[.slice none 0 0,.bool false] 186 (0,0))):=af ((Below.heap_alloc _ _ _ (by simpa [World.setCell] using s1)).trans (ah (ah b1 0 _) 1 _))
     have HGF:Hid (w.grownBy (((w1.setCell ⟨w.heap.size+1,0,none⟩ (.slice none 0 0)).setCell ⟨w.heap.size+1,1,none⟩ (.bool false)).alloc (.cells #[.int .i64 xc,.bool xb,.int .i64 xd] 220)) none):=af (ab (aj (aj (ae HG.out HG1.out) (.inr (by show w.heap.size≤w.heap.size+1;omega)) _) (.inr (by show w.heap.size≤w.heap.size+1;omega)) _) _)
     clear b0 b1 b2 hx
     go_wp2_with fail
     refine bodyPost_ret (aO Tryz.results90 rfl HBF.out Tryz.underlying186 rfl (by kernel_rfl) rfl) rfl ⟨?_,HGF.out⟩
     rw[HAN.out]
     exact rfl
    |some x=>
     rw[hx] at hev
     simp only at hev
     subst hev
     have HN:Hid (gi s env (K.take (j+1))=some (ws++[x],h)):=af (by
      rw[HT.out]
      simp[h46,hx])
     obtain⟨E,hE⟩:∃ E,E=ET x:=⟨_,rfl⟩
     rw[←hE]
     have hEl:E.length=3:=by rw[hE];rfl
     have HIE:Hid ((Tryz.prog.info? 220).map (·.size)=some E.length):=af (by rw[hEl];kernel_rfl)
     have HIZ:Hid ((Tryz.prog.info? 220).map (fun i=>(i.zero,i.size))=some (some (.agg #[.int .i64 0,.bool false,.int .i64 0]),E.length)):=af (by rw[hEl];kernel_rfl)
     have HOE:Hid (∀ u∈E,u.oneCell'=true):=af (by rw[hE];exact yW x)
     have HOEA:Hid (E.toArray.all (·.oneCell')=true):=af (all_oneCell_toArray HOE.out)
     have HFI:Hid (∀ (w3:World) (v':Value),w3.ownsRow w.heap.size 220 3 v' (ws.length+1) (Db ws++E)→w3.ownsRow w.heap.size 220 3 v' (ws++[x]).length (Db (ws++[x]))):=af (fun w3 v' hh=>by
      rw[hE] at hh
      rw[List.length_append]
      simpa [Db] using hh)
     have HRE:Hid ((w1.alloc (.cells E.toArray 220)).rangeAt w1.heap.size 0 E):=af (aF (heap_alloc_new w1 _) rfl)
     have y0:(w1.alloc (.cells E.toArray 220)).cell? ⟨w.heap.size+1+1,0,none⟩=some (.slice va ws.length vc):=by rw[cell_of_row _ _ _ _ _ _ ((Below.heap_alloc _ _ _ s2).trans b2)];rfl
     have how1:=aq (aq HOW.out HG1.out (fun g hg=>by cases hg)) (ab (ab (ag w1 none) (.cells E.toArray 220)) (.cells E.toArray 220)) (fun g hg=>by cases hg)
     obtain⟨nl,hnl⟩:∃ nl,nl=ws.length:=⟨_,rfl⟩
     obtain⟨xs,hxs⟩:∃ xs,xs=Db ws:=⟨_,rfl⟩
     have HOW2:=af HOW.out
     rw[←hnl] at HFI HLT how1 y0 hwl
     rw[←hxs] at HFI how1
     have HBK:Hid (∀ (g:Nat) (t:TypeId) (cs:Array Value),w1.heap[g]?=some (.cells cs t (0,0))→t≠220→∀ w3:World,((w1.alloc (.cells E.toArray 220)).alloc (.cells E.toArray 220)).grownBy w3 (Value.slice va nl vc).ownBlock→w3.heap[g]?=some (.cells cs t (0,0))):=af (fun g t cs hgb ht w3 hg3=>by
      have hl:=lt_of_block hgb
      have h4:=(Below.heap_alloc (w1.alloc (.cells E.toArray 220)) (.cells E.toArray 220) g (by simp;omega)).trans ((Below.heap_alloc w1 (.cells E.toArray 220) g hl).trans hgb)
      exact (hg3.block _ (lt_of_block h4) (fun e=>aS how1 h4 (fun e2=>ht e2.symm) e.symm)).trans h4)
     have K0:=af b0
     have K1:=af b1
     have K2:=af b2
     rw[←hnl] at K2
     clear hE hnl hxs b0 b1 b2 hx
     go_wp2_with (first
      |(refine az rfl 220 (.tmp 9) (.tmp 42) rfl _ E rfl rfl hEl.symm HIE.out HOEA.out ?_)
      |(refine wpList_load_mid rfl 220 (.tmp 9) rfl w1.heap.size 0 rfl E _ HRE.out Tryz.underlying220 rfl HIE.out ?_)
      |(refine bp rfl 184 220 (.tmp 49) rfl _ E rfl Tryz.underlying184 HIZ.out (by omega) (by omega) ?_)
      |(at_builtin;refine wpList_append_own _ rfl (.tmp 48) (.tmp 50) 184 rfl (w.heap.size) 220 i0 (.agg #[.int .i64 0,.bool false,.int .i64 0]) 3 24 Tryz.underlying184 hi0 hz0 hz1 hz2 rfl (by decide) _ _ _ rfl how1 _ 1 1 E rfl (by omega) (fun j u hj=>bj hj) HOE.out (by unfold maxLen;omega) (by omega) (by simp;omega) ?_))
     intro v3 w3 hown3 hg3 _
     have G0:=HBK.out _ _ _ K0.out (by decide) w3 hg3
     have G1:=HBK.out _ _ _ K1.out (by decide) w3 hg3
     have G2:=HBK.out _ _ _ K2.out (by decide) w3 hg3
     have HO3:=af (nh (HFI.out _ _ hown3) G2 (by decide) 0 v3)
     have HGG:Hid (w.grownBy (w3.setCell ⟨w.heap.size+1+1,0,none⟩ v3) none):=af (aj (aL (ae HG.out (ae HG1.out (ab (ab (ag w1 none) _) _))) hg3 HLT.out) (.inr (by show w.heap.size≤w.heap.size+1+1;omega)) _)
     have u0:w3.cell? ⟨w.heap.size+1+1,0,none⟩=some (.slice va nl vc):=by rw[cell_of_row _ _ _ _ _ _ G2];rfl
     have zu:∀ i,w3.frozen? ⟨w.heap.size+1+1,i,none⟩=false:=ai G2
     have HF0:Hid ((w3.setCell ⟨w.heap.size+1+1,0,none⟩ v3).heap[w.heap.size]?=some (.cells L.toArray 175 (0,0))):=af ((jp (by omega)).trans G0)
     have HF1:Hid ((w3.setCell ⟨w.heap.size+1+1,0,none⟩ v3).heap[w.heap.size+1]?=some (.cells #[.slice none 0 0,.bool false] 186 (0,0))):=af ((jp (by omega)).trans G1)
     have HF2:Hid ((w3.setCell ⟨w.heap.size+1+1,0,none⟩ v3).heap[w.heap.size+1+1]?=some (.cells #[v3,.bool h] 186 (0,0))):=af (ah G2 0 _)
     obtain⟨va3,vm3,vc3,rfl⟩:=an hown3
     clear hown3 hg3 G0 G1 G2 how1 HBK
     go_wp2_with fail
     go_roundw
     case rel=>exact⟨j+1,by omega,by go_num,ws++[x],h,_,HN.out,HF0.out,HF1.out,HF2.out,HO3.out,HGG.out⟩
     case measure=>simp[intOf];omega
  ·have hjl:j=K.length:=by omega
   subst hjl
   rw[List.take_length] at HO
   have y0:wr.cell? ⟨w.heap.size+1,0,none⟩=some (.slice none 0 0):=by rw[cell_of_row _ _ _ _ _ _ hB1];rfl
   have y1:wr.cell? ⟨w.heap.size+1,1,none⟩=some (.bool false):=by rw[cell_of_row _ _ _ _ _ _ hB1];rfl
   have zy:∀ i,wr.frozen? ⟨w.heap.size+1,i,none⟩=false:=ai hB1
   have HBF:Hid (((wr.setCell ⟨w.heap.size+1,0,none⟩ (.slice va ws.length vc)).setCell ⟨w.heap.size+1,1,none⟩ (.bool h)).heap[w.heap.size+1]?=some (.cells #[.slice va ws.length vc,.bool h] 186 (0,0))):=af (ah (ah hB1 0 _) 1 _)
   have HGF:Hid (w.grownBy ((wr.setCell ⟨w.heap.size+1,0,none⟩ (.slice va ws.length vc)).setCell ⟨w.heap.size+1,1,none⟩ (.bool h)) none):=af (aj (aj HG.out (.inr (by show w.heap.size≤w.heap.size+1;omega)) _) (.inr (by show w.heap.size≤w.heap.size+1;omega)) _)
   have HOF:Hid (((wr.setCell ⟨w.heap.size+1,0,none⟩ (.slice va ws.length vc)).setCell ⟨w.heap.size+1,1,none⟩ (.bool h)).ownsRow w.heap.size 220 3 (.slice va ws.length vc) ws.length (Db ws)):=af (nh (nh HOW.out hB1 (by decide) 0 _) (ah hB1 0 _) (by decide) 1 _)
   clear hB0 hB1 hB2 hown hg ho
   go_wp2_with fail
   refine bodyPost_ret (aO Tryz.results90 rfl HBF.out Tryz.underlying186 rfl (by kernel_rfl) rfl) rfl ⟨?_,HGF.out⟩
   rw[HO.out]
   exact⟨_,rfl,HOF.out⟩
theorem Bq {α:Type}(lt:α→α→Bool)(x:α)(l:List α):(fM lt x l).head?=match l.head? with|none=>some x|some y=>if lt x y then some x else some y:=by
 cases l with
 |nil=>rfl
 |cons y l=>
  simp only[fM,List.head?_cons]
  split <;> rfl
def Gf (wt:Nat→Int)(b:Option In)(x:In):Option In:=match b with|none=>some x|some y=>if i9 wt x y then some x else some y
def gz (wt:Nat→Int)(l:List In):Option In:=(bK (i9 wt) l).head?
theorem Bz (wt:Nat→Int)(l:List In)(x:In):gz wt (l++[x])=Gf wt (gz wt l) x:=by
 unfold gz Gf
 rw[qe,Bq]
 cases (bK (i9 wt) l).head? <;> rfl
def kG (wt:Nat→Int)(o:Option In):List Value:=match o with
 |some i=>aG (wt i.rule) i
 |none=>[.int .i64 0,.int .i64 0,.int .i64 0,.int .i64 0,.int .i64 0,.int .i64 0,.int .i64 0,.int .i64 0,.int .i64 0,.int .i64 0,.int .i64 0,.int .i64 0,.int .i64 0,.int .i64 0,.int .i64 0,.int .i64 0,.bool false,.bool false,.bool false,.bool false,.int .i64 0,.int .i64 0,.int .i64 0,.int .i64 0]
theorem kM (wt:Nat→Int)(o:Option In):(kG wt o).length=24:=by cases o <;> rfl
theorem pq (wt:Nat→Int)(o:Option In):∀ v∈kG wt o,v.oneCell'=true:=by
 cases o with
 |some i=>exact cm _ _
 |none=>
  intro v hv
  simp only[kG,List.mem_cons,List.not_mem_nil,or_false] at hv
  rcases hv with h|h|h|h|h|h|h|h|h|h|h|h|h|h|h|h|h|h|h|h|h|h|h|h <;> rw[h] <;> rfl
theorem iT {b:Nat}:∀ (vs:List Value) (o:Nat) (w w':World),w.grownBy w' (some b)→w.grownBy (w'.setCells b o vs) (some b)
 |[],_,_,_,h=>h
 |v::vs,o,w,_,h=>iT vs (o+1) w _ (aj h (.inl rfl) v)
theorem nO {w:World}{b:Nat}{Z L:List Value}{t:TypeId}(h:w.heap[b]?=some (.cells Z.toArray t (0,0)))(hl:Z.length=L.length):(w.setCells b 0 L).heap[b]?=some (.cells L.toArray t (0,0)):=by
 have:=gG L 0 w [] [] Z rfl hl (by simpa using h)
 simpa using this
theorem fG {P:Program}{ops:Array Oper}{rest:List Oper}{op:Oper}{a:Act}{w:World}{Q:Exit→Act→World→Prop}(hw:Region.wanted op (yielded ops a.tmps)=true)(ty:TypeId)(x:Operand)(ho:op.op=.load ty x)
  (b o:Nat) (hx:a.eval x=.pointer (some ⟨b,o,none⟩)) (cs:List Value) (d:TypeDesc) (hc:w.rangeAt b o cs)
  (hu:P.underlying ty=some d) (hd:d.isRow=true) (hi:(P.info? ty).map (·.size)=some cs.length)
  (h:wpList P ops Q rest (a.put op.dst (.agg cs.toArray)) w):wpList P ops Q (op::rest) a w:=
 wpList_step fun _ hK=>by
  rw[if_pos hw]
  exact wp_load_mid ty x ho b o hx cs d hc hu hd hi (hK _ _ h)
theorem yg (s:ByteArray)(F:List aw)(R:List ay)(ra fa:Option Addr)(rc fc B B2 x o:Nat)(fd:In→Bool)(w:World)(hR:∀ r∈R,md s r)(hR9:R.length≤9)
  (hrow:bS w B s (.slice ra R.length rc) R) (hFl:F.length≤60) (hfr:w.ownsRow B2 114 4 (.slice fa F.length fc) F.length (bE F))
  (HHAS:Hid (∀ (k:Nat) (hk:k<R.length) (i:In) (W:World),i∈dz 0 s F k R[k].2.1→w.grownBy W none→Calls Tryz.prog 83 #[.pointer (some ⟨x,o,none⟩),.agg (aG (eo s R k) i).toArray] W fun e w'=>e=.returned (.bool (fd i))∧W.grownBy w' none)) :
  Calls Tryz.prog 111 #[.slice ra R.length rc,.slice fa F.length fc,.pointer (some ⟨x,o,none⟩)] w fun e w'=>e=.returned (.tuple #[.agg (kG (eo s R) (gz (eo s R) (jy s F R fd R.length))).toArray,.bool (gz (eo s R) (jy s F R fd R.length)).isSome])∧w.grownBy w' none:=by
 obtain⟨xs0,hrow1,hpar⟩:=hrow
 have HROW:=af hrow1
 have HPAR:=af hpar
 have HFR:=af hfr
 have HR:=af hR
 have hb0:((w.alloc (.cells #[.int .i64 0,.int .i64 0,.int .i64 0,.int .i64 0,.int .i64 0,.int .i64 0,.int .i64 0,.int .i64 0,.int .i64 0,.int .i64 0,.int .i64 0,.int .i64 0,.int .i64 0,.int .i64 0,.int .i64 0,.int .i64 0,.bool false,.bool false,.bool false,.bool false,.int .i64 0,.int .i64 0,.int .i64 0,.int .i64 0] 175)).alloc (.cells #[.int .i64 0,.int .i64 0,.int .i64 0,.int .i64 0,.int .i64 0,.int .i64 0,.int .i64 0,.int .i64 0,.int .i64 0,.int .i64 0,.int .i64 0,.int .i64 0,.int .i64 0,.int .i64 0,.int .i64 0,.int .i64 0,.bool false,.bool false,.bool false,.bool false,.int .i64 0,.int .i64 0,.int .i64 0,.int .i64 0] 175)).heap[w.heap.size]?=some (.cells #[.int .i64 0,.int .i64 0,.int .i64 0,.int .i64 0,.int .i64 0,.int .i64 0,.int .i64 0,.int .i64 0,.int .i64 0,.int .i64 0,.int .i64 0,.int .i64 0,.int .i64 0,.int .i64 0,.int .i64 0,.int .i64 0,.bool false,.bool false,.bool false,.bool false,.int .i64 0,.int .i64 0,.int .i64 0,.int .i64 0] 175 (0,0)):=(Below.heap_alloc _ _ _ (by simp)).trans (heap_alloc_new w _)
 have hb1:((w.alloc (.cells #[.int .i64 0,.int .i64 0,.int .i64 0,.int .i64 0,.int .i64 0,.int .i64 0,.int .i64 0,.int .i64 0,.int .i64 0,.int .i64 0,.int .i64 0,.int .i64 0,.int .i64 0,.int .i64 0,.int .i64 0,.int .i64 0,.bool false,.bool false,.bool false,.bool false,.int .i64 0,.int .i64 0,.int .i64 0,.int .i64 0] 175)).alloc (.cells #[.int .i64 0,.int .i64 0,.int .i64 0,.int .i64 0,.int .i64 0,.int .i64 0,.int .i64 0,.int .i64 0,.int .i64 0,.int .i64 0,.int .i64 0,.int .i64 0,.int .i64 0,.int .i64 0,.int .i64 0,.int .i64 0,.bool false,.bool false,.bool false,.bool false,.int .i64 0,.int .i64 0,.int .i64 0,.int .i64 0] 175)).heap[w.heap.size+1]?=some (.cells (kG (eo s R) (gz (eo s R) (jy s F R fd 0))).toArray 175 (0,0)):=bn (by simp)
 have HB0:=af hb0
 have HB1:=af hb1
 have HGW:Hid (w.grownBy ((w.alloc (.cells #[.int .i64 0,.int .i64 0,.int .i64 0,.int .i64 0,.int .i64 0,.int .i64 0,.int .i64 0,.int .i64 0,.int .i64 0,.int .i64 0,.int .i64 0,.int .i64 0,.int .i64 0,.int .i64 0,.int .i64 0,.int .i64 0,.bool false,.bool false,.bool false,.bool false,.int .i64 0,.int .i64 0,.int .i64 0,.int .i64 0] 175)).alloc (.cells #[.int .i64 0,.int .i64 0,.int .i64 0,.int .i64 0,.int .i64 0,.int .i64 0,.int .i64 0,.int .i64 0,.int .i64 0,.int .i64 0,.int .i64 0,.int .i64 0,.int .i64 0,.int .i64 0,.int .i64 0,.int .i64 0,.bool false,.bool false,.bool false,.bool false,.int .i64 0,.int .i64 0,.int .i64 0,.int .i64 0] 175)) none):=af (ab (ab (ag _ _) _) _)
 have HIT:Hid (∀ o:Option In,(Tryz.prog.info? 175).map (·.size)=some (kG (eo s R) o).length):=af (fun o=>by rw[kM];exact bC)
 clear hrow1 hpar hfr hR hb0 hb1
 go_enter Tryz.func111,Tryz.ntmps111
 go_wp2_with fail
 generalize ((w.alloc (.cells #[.int .i64 0,.int .i64 0,.int .i64 0,.int .i64 0,.int .i64 0,.int .i64 0,.int .i64 0,.int .i64 0,.int .i64 0,.int .i64 0,.int .i64 0,.int .i64 0,.int .i64 0,.int .i64 0,.int .i64 0,.int .i64 0,.bool false,.bool false,.bool false,.bool false,.int .i64 0,.int .i64 0,.int .i64 0,.int .i64 0] 175)).alloc (.cells #[.int .i64 0,.int .i64 0,.int .i64 0,.int .i64 0,.int .i64 0,.int .i64 0,.int .i64 0,.int .i64 0,.int .i64 0,.int .i64 0,.int .i64 0,.int .i64 0,.int .i64 0,.int .i64 0,.int .i64 0,.int .i64 0,.bool false,.bool false,.bool false,.bool false,.int .i64 0,.int .i64 0,.int .i64 0,.int .i64 0] 175))=WA at HB0 HB1 HGW ⊢
 go_loopw [9,18] (fun t i wr=>∃ k:Nat,k≤R.length∧i=.int .i64 k∧t=.bool (gz (eo s R) (jy s F R fd k)).isSome∧wr.heap[w.heap.size]?=some (.cells #[.int .i64 0,.int .i64 0,.int .i64 0,.int .i64 0,.int .i64 0,.int .i64 0,.int .i64 0,.int .i64 0,.int .i64 0,.int .i64 0,.int .i64 0,.int .i64 0,.int .i64 0,.int .i64 0,.int .i64 0,.int .i64 0,.bool false,.bool false,.bool false,.bool false,.int .i64 0,.int .i64 0,.int .i64 0,.int .i64 0] 175 (0,0))∧wr.heap[w.heap.size+1]?=some (.cells (kG (eo s R) (gz (eo s R) (jy s F R fd k))).toArray 175 (0,0))∧w.grownBy wr none) (fun _ i _=>R.length - (intOf i).toNat)
 case atStart=>exact⟨0,by omega,rfl,rfl,HB0.out,HB1.out,HGW.out⟩
 case round=>
  obtain⟨k,hk,rfl,rfl,hB0,hB1,hg⟩:=hrel
  have HG:=af hg
  have l0:=lt_of_block hB0
  have l1:=lt_of_block hB1
  by_cases hlt:k<R.length
  ·have hrw:=HR.out _ (List.getElem_mem hlt)
   obtain⟨a1,m1,c1,a2,m2,c2,x0,x1,x2,o1,o2⟩:=jP R xs0 HPAR.out k hlt
   have em1:=ar o1
   subst em1
   obtain⟨gr,hra,_,_,hgr,hrcell⟩:=aC HROW.out (by omega)
   subst hra
   obtain⟨wk,hwk⟩:∃ wk:Int,wk=bt s R[k].1 - 48:=⟨_,rfl⟩
   have hwg:eo s R k=wk:=by rw[hwk];simp[eo,List.getD,List.getElem?_eq_getElem hlt]
   have d0:=am hg (hrcell _ _ x0)
   have d1:=am hg (hrcell _ _ x1)
   have d2:=am hg (hrcell _ _ x2)
   rw[←hwk] at d0
   obtain⟨m1,hm1⟩:∃ m1,m1=R[k].2.1.length:=⟨_,rfl⟩
   rw[←hm1] at d1
   obtain⟨IR,hIR⟩:∃ IR,IR=dz 0 s F k R[k].2.1:=⟨_,rfl⟩
   have HCO:Hid (∀ W,w.grownBy W none→Calls Tryz.prog 82 #[.int .i64 k,.agg #[.int .i64 wk,.slice a1 m1 c1,.slice a2 m2 c2],.slice fa F.length fc] W fun e w'=>∃ v,e=.returned v∧w'.ownsRow W.heap.size 175 24 v IR.length (dC wk IR)∧W.grownBy w' none):=af (fun W hW=>by
    rw[hIR,hm1]
    exact lP s F k R[k].2.1 wk a1 a2 fa c1 m2 c2 fc B B2 W hrw.conds hrw.pats hrw.len (aq o1 hW (fun g hg=>by cases hg)) hFl (aq HFR.out hW (fun g hg=>by cases hg)))
   have HHK:=af (HHAS.out k hlt)
   rw[←hIR,hwg] at HHK
   have HIRL:IR.length≤216000:=by rw[hIR];exact mH hFl k hrw
   have HIRR:Hid (∀ i∈IR,i.rule=k):=af (by rw[hIR];exact fun i hi=>(iF hFl k hrw i hi).2)
   have HJS:=af (uH s F R fd k IR)
   have HJA:Hid (j9 s F R fd k IR IR.length=jy s F R fd (k+1)):=af (by rw[hIR];exact yZ s F R fd k hlt)
   have HJ0:=af (v7 s F R fd k IR)
   have hsz:=hg.size
   have hne:gr≠wr.heap.size:=by omega
   have hgl:gr<wr.heap.size:=by omega
   have HWGT:=af hwg
   have HBB0:=af hB0
   have HBB1:=af hB1
   rw[←HJ0.out] at HBB1 ⊢
   obtain⟨f0,hf0⟩:∃ f0,f0=(gz (eo s R) (j9 s F R fd k IR 0)).isSome:=⟨_,rfl⟩
   rw[←hf0]
   have HF0:=af hf0
   have HK1:Hid (k+1≤R.length):=af hlt
   clear hf0 hIR hm1 hwk hwg x0 x1 x2 o1 o2 hrcell hrw hg hB0 hB1
   go_wp2_with fail
   go_at_call 82
   refine (HCO.out _ (ae HG.out (ab (ag _ _) _))).mono ?_
   rintro e w1 ⟨ov,rfl,hov,hg1⟩
   have HW1:Hid (wr.grownBy w1 none):=af (ae (ab (ag _ _) _) hg1)
   obtain⟨oa,om,oc,rfl⟩:=an hov
   have eom:=ar hov
   subst eom
   have HOV:=af (bN hov (Nat.zero_le _))
   have HOBS:Hid (∀ g,(Value.slice oa IR.length oc).ownBlock=some g→wr.heap.size<g):=af (fun g hgg=>by
    have:=hov.lt g hgg
    simp at this
    omega)
   have HA0:Hid (w1.heap[w.heap.size]?=some (.cells #[.int .i64 0,.int .i64 0,.int .i64 0,.int .i64 0,.int .i64 0,.int .i64 0,.int .i64 0,.int .i64 0,.int .i64 0,.int .i64 0,.int .i64 0,.int .i64 0,.int .i64 0,.int .i64 0,.int .i64 0,.int .i64 0,.bool false,.bool false,.bool false,.bool false,.int .i64 0,.int .i64 0,.int .i64 0,.int .i64 0] 175 (0,0))):=af ((HW1.out.block _ l0 (by simp)).trans HBB0.out)
   have HA1:Hid (w1.heap[w.heap.size+1]?=some (.cells (kG (eo s R) (gz (eo s R) (j9 s F R fd k IR 0))).toArray 175 (0,0))):=af ((HW1.out.block _ l1 (by simp)).trans HBB1.out)
   clear hov hg1 HCO
   go_wp2_with fail
   go_loopw [9,29] (fun t i wr2=>∃ j:Nat,j≤IR.length∧i=.int .i64 j∧t=.bool (gz (eo s R) (j9 s F R fd k IR j)).isSome∧wr2.heap[w.heap.size]?=some (.cells #[.int .i64 0,.int .i64 0,.int .i64 0,.int .i64 0,.int .i64 0,.int .i64 0,.int .i64 0,.int .i64 0,.int .i64 0,.int .i64 0,.int .i64 0,.int .i64 0,.int .i64 0,.int .i64 0,.int .i64 0,.int .i64 0,.bool false,.bool false,.bool false,.bool false,.int .i64 0,.int .i64 0,.int .i64 0,.int .i64 0] 175 (0,0))∧wr2.heap[w.heap.size+1]?=some (.cells (kG (eo s R) (gz (eo s R) (j9 s F R fd k IR j))).toArray 175 (0,0))∧w.grownBy wr2 none∧wr2.ownsRow 0 175 24 (.slice oa IR.length oc) IR.length (dC wk IR)) (fun _ i _=>IR.length - (intOf i).toNat)
   case atStart=>exact⟨0,by omega,rfl,by rw[HF0.out],HA0.out,HA1.out,ae HG.out HW1.out,HOV.out⟩
   case round=>
    rename World=>wr2
    obtain⟨j,hj,rfl,rfl,hC0,hC1,hg2,hor⟩:=hrel
    have HG2:=af hg2
    have HOR:=af hor
    have HC0:=af hC0
    have HC1:=af hC1
    have r0:=lt_of_block hC0
    have r1:=lt_of_block hC1
    have hsz2:=hg2.size
    by_cases hltj:j<IR.length
    ·obtain⟨go,hoa,_,_,hgol,hocell⟩:=aC hor (by omega)
     subst hoa
     have hgob:w.heap.size+1<go:=by
      have:=HOBS.out go rfl
      omega
     obtain⟨L,hL⟩:∃ L,L=aG wk IR[j]:=⟨_,rfl⟩
     have HRG:Hid (wr2.rangeAt go (j*24) L):=af (by rw[hL];exact eY (eC wk) hocell hltj)
     have hLl:L.length=24:=by rw[hL];rfl
     have HIL:Hid ((Tryz.prog.info? 175).map (·.size)=some L.length):=af (by rw[hLl];exact bC)
     have HILs:Hid ((Tryz.prog.info? 175).map (·.size)=some L.toArray.size):=af (by rw[List.size_toArray,hLl];exact bC)
     have HONA:Hid (L.toArray.all (·.oneCell')=true):=af (all_oneCell_toArray (by rw[hL];exact cm _ _))
     have HBN:Hid ((wr2.alloc (.cells L.toArray 175)).heap[wr2.heap.size]?=some (.cells L.toArray 175 (0,0))):=af (heap_alloc_new wr2 _)
     have HGA:Hid (wr2.grownBy (wr2.alloc (.cells L.toArray 175)) none):=af (ab (ag _ _) _)
     have HCA:=af (fun W=>HHK.out IR[j] W (List.getElem_mem hltj))
     rw[←hL] at HCA
     have HSJ:=af (HJS.out j hltj)
     obtain⟨ok,hok⟩:∃ ok,ok=fd IR[j]:=⟨_,rfl⟩
     rw[←hok] at HCA HSJ
     have HFL:Hid (kG (eo s R) (some IR[j])=L):=af (by rw[hL];unfold kG;simp only[];rw[HIRR.out _ (List.getElem_mem hltj),HWGT.out])
     obtain⟨best,hbest⟩:∃ best,best=gz (eo s R) (j9 s F R fd k IR j):=⟨_,rfl⟩
     have HNX:Hid (gz (eo s R) (j9 s F R fd k IR (j+1))=if ok then best else Gf (eo s R) best IR[j]):=af (by
      rw[HSJ.out,hbest]
      cases ok with
      |true=>simp
      |false=>
       rw[if_neg (by simp),if_neg (by simp)]
       exact Bz _ _ _)
     obtain⟨M,hM⟩:∃ M,M=kG (eo s R) best:=⟨_,rfl⟩
     have hMl:M.length=24:=by rw[hM];exact kM _ _
     have HIM:Hid ((Tryz.prog.info? 175).map (·.size)=some M.length):=af (by rw[hMl];exact bC)
     rw[←hbest,←hM] at HC1 hC1
     have HRM:Hid (∀ W,wr2.grownBy W none→W.rangeAt (w.heap.size+1) 0 M):=af (fun W hW=>aF ((hW.block _ r1 (by simp)).trans hC1) rfl)
     have HRL:Hid (∀ W,(wr2.alloc (.cells L.toArray 175)).grownBy W none→W.rangeAt wr2.heap.size 0 L):=af (fun W hW=>aF ((hW.block _ (lt_of_block HBN.out) (by simp)).trans HBN.out) rfl)
     have HTH:Hid (∀ W,wr2.grownBy W none→W.there (w.heap.size+1) 0 L.toArray.size):=af (fun W hW=>dJ ((hW.block _ r1 (by simp)).trans hC1) (by simp[hLl,hMl]))
     have HNEW:Hid (∀ W,wr2.grownBy W none→(W.setCells (w.heap.size+1) 0 L.toArray.toList).heap[w.heap.size]?=some (.cells #[.int .i64 0,.int .i64 0,.int .i64 0,.int .i64 0,.int .i64 0,.int .i64 0,.int .i64 0,.int .i64 0,.int .i64 0,.int .i64 0,.int .i64 0,.int .i64 0,.int .i64 0,.int .i64 0,.int .i64 0,.int .i64 0,.bool false,.bool false,.bool false,.bool false,.int .i64 0,.int .i64 0,.int .i64 0,.int .i64 0] 175 (0,0))∧(W.setCells (w.heap.size+1) 0 L.toArray.toList).heap[w.heap.size+1]?=some (.cells L.toArray 175 (0,0))∧w.grownBy (W.setCells (w.heap.size+1) 0 L.toArray.toList) none∧(W.setCells (w.heap.size+1) 0 L.toArray.toList).ownsRow 0 175 24 (.slice (some ⟨go,0,none⟩) IR.length oc) IR.length (dC wk IR)):=af (fun W hW=>by
      refine⟨(fN _ _ _ (by omega)).trans ((hW.block _ r0 (by simp)).trans HC0.out),nO ((hW.block _ r1 (by simp)).trans hC1) (by rw[hMl,hLl]),?_,?_⟩
      ·exact aL (ae HG2.out hW) (iT _ 0 W W (ag _ _)) (fun g hg=>by cases hg;omega)
      ·refine oW (aq HOR.out hW (fun g hg=>by cases hg)) (iT _ 0 W W (ag _ _)) (fun g hg e=>?_)
       have e1:go=g:=Option.some.inj hg
       have e2:w.heap.size+1=g:=Option.some.inj e
       omega)
     have HOLD:Hid (∀ W,wr2.grownBy W none→W.heap[w.heap.size]?=some (.cells #[.int .i64 0,.int .i64 0,.int .i64 0,.int .i64 0,.int .i64 0,.int .i64 0,.int .i64 0,.int .i64 0,.int .i64 0,.int .i64 0,.int .i64 0,.int .i64 0,.int .i64 0,.int .i64 0,.int .i64 0,.int .i64 0,.bool false,.bool false,.bool false,.bool false,.int .i64 0,.int .i64 0,.int .i64 0,.int .i64 0] 175 (0,0))∧W.heap[w.heap.size+1]?=some (.cells M.toArray 175 (0,0))∧w.grownBy W none∧W.ownsRow 0 175 24 (.slice (some ⟨go,0,none⟩) IR.length oc) IR.length (dC wk IR)):=af (fun W hW=>⟨(hW.block _ r0 (by simp)).trans HC0.out,(hW.block _ r1 (by simp)).trans hC1,ae HG2.out hW,aq HOR.out hW (fun g hg=>by cases hg)⟩)
     have HAH:Hid (∀ y,best=some y→∀ W,Calls Tryz.prog 108 #[.agg L.toArray,.agg M.toArray] W fun e w'=>e=.returned (.bool (i9 (eo s R) IR[j] y))∧W.grownBy w' none):=af (fun y hy W=>by
      have:=qG (eo s R IR[j].rule) (eo s R y.rule) IR[j] y W
      rw[hM,hy,←HFL.out]
      exact this)
     have HM:=af hM
     have hneo:go≠wr2.heap.size:=by omega
     have w1n:w.heap.size+1≠wr2.heap.size:=by omega
     obtain⟨it,hit⟩:∃ it,it=IR[j]:=⟨_,rfl⟩
     rw[←hit] at HNX HAH HFL
     rw[←hbest]
     clear hit hM hL hok hbest HSJ hC0 hC1 hg2 hor hocell HHK HJS
     cases hbb:best with
     |none=>
      subst hbb
      simp only[Option.isSome_none]
      have HG3:Hid (wr2.grownBy (wr2.alloc (.cells L.toArray 175)) none):=af HGA.out
      go_wp2_with (first
       |(refine wpList_load_mid rfl 175 (.tmp 31) rfl go (j*24) rfl L _ HRG.out Tryz.underlying175 rfl HIL.out ?_)
       |(refine az rfl 175 (.tmp 14) (.tmp 32) rfl _ L rfl rfl hLl.symm HIL.out HONA.out ?_)
       |(refine fG rfl 175 (.tmp 14) rfl wr2.heap.size 0 rfl L _ (HRL.out _ (ag _ _)) Tryz.underlying175 rfl HIL.out ?_))
      go_at_call 83
      refine (HCA.out _ (ae HG2.out HGA.out)).mono ?_
      rintro e w2 ⟨rfl,hg3⟩
      have HG4:Hid (wr2.grownBy w2 none):=af (ae HGA.out hg3)
      have HR4:Hid (w2.rangeAt wr2.heap.size 0 L):=af (HRL.out _ hg3)
      clear hg3
      cases ok with
      |true=>
       have HX:=af (HOLD.out _ HG4.out)
       have HNZ:Hid (gz (eo s R) (j9 s F R fd k IR (j+1))=none):=af (by rw[HNX.out];rfl)
       clear HNX HCA HNEW HTH
       go_wp2_with fail
       go_roundw
       case rel=>
        obtain⟨e1,e2,e3,e4⟩:=HX.out
        exact⟨j+1,by omega,by go_num,by rw[HNZ.out];rfl,e1,by rw[HNZ.out,←HM.out];exact e2,e3,e4⟩
       case measure=>simp[intOf];omega
      |false=>
       have HX:=af (HNEW.out _ HG4.out)
       have HNZ:Hid (gz (eo s R) (j9 s F R fd k IR (j+1))=some it):=af (by rw[HNX.out];rfl)
       have HT4:=af (HTH.out _ HG4.out)
       clear HNX HCA HOLD HTH HNEW
       go_wp2_with (first
        |(refine wpList_load_mid rfl 175 (.tmp 14) rfl wr2.heap.size 0 rfl L _ HR4.out Tryz.underlying175 rfl HIL.out ?_)
        |(refine wpList_store_mid rfl 175 (.tmp 8) (.tmp 47) rfl (w.heap.size+1) 0 L.toArray rfl rfl HT4.out HILs.out HONA.out ?_))
       go_roundw
       case rel=>
        obtain⟨e1,e2,e3,e4⟩:=HX.out
        exact⟨j+1,by omega,by go_num,by rw[HNZ.out];rfl,e1,by rw[HNZ.out,HFL.out];exact e2,e3,e4⟩
       case measure=>simp[intOf];omega
     |some y=>
      subst hbb
      simp only[Option.isSome_some]
      have HAY:=af (HAH.out y rfl)
      obtain⟨la,hla⟩:∃ la,la=i9 (eo s R) it y:=⟨_,rfl⟩
      have HNY:Hid (Gf (eo s R) (some y) it=if la then some it else some y):=af (by rw[hla];rfl)
      rw[←hla] at HAY
      clear hla HAH
      go_wp2_with (first
       |(refine wpList_load_mid rfl 175 (.tmp 31) rfl go (j*24) rfl L _ HRG.out Tryz.underlying175 rfl HIL.out ?_)
       |(refine az rfl 175 (.tmp 14) (.tmp 32) rfl _ L rfl rfl hLl.symm HIL.out HONA.out ?_)
       |(refine fG rfl 175 (.tmp 14) rfl wr2.heap.size 0 rfl L _ (HRL.out _ (ag _ _)) Tryz.underlying175 rfl HIL.out ?_)
       |(refine fG rfl 175 (.tmp 8) rfl (w.heap.size+1) 0 rfl M _ (HRM.out _ HGA.out) Tryz.underlying175 rfl HIM.out ?_))
      go_at_call 108
      refine (HAY.out _).mono ?_
      rintro e wa ⟨rfl,hga⟩
      have HGa:=af (ae HGA.out hga)
      have HRa:=af (HRL.out _ hga)
      have HGaL:=af hga
      clear hga HAY
      cases la with
      |false=>
       have HNZ:Hid (gz (eo s R) (j9 s F R fd k IR (j+1))=some y):=af (by
        rw[HNX.out,HNY.out]
        cases ok <;> simp)
       have HX:=af (HOLD.out _ HGa.out)
       clear HNX HNY HCA HNEW HTH
       go_wp2_with fail
       go_roundw
       case rel=>
        obtain⟨e1,e2,e3,e4⟩:=HX.out
        exact⟨j+1,by omega,by go_num,by rw[HNZ.out];rfl,e1,by rw[HNZ.out,←HM.out];exact e2,e3,e4⟩
       case measure=>simp[intOf];omega
      |true=>
       go_wp2_with (first
        |(refine fG rfl 175 (.tmp 14) rfl wr2.heap.size 0 rfl L _ HRa.out Tryz.underlying175 rfl HIL.out ?_))
       go_at_call 83
       refine (HCA.out _ (ae HG2.out HGa.out)).mono ?_
       rintro e w2 ⟨rfl,hg3⟩
       have HG4:Hid (wr2.grownBy w2 none):=af (ae HGa.out hg3)
       have HR4:Hid (w2.rangeAt wr2.heap.size 0 L):=af (HRL.out _ (ae HGaL.out hg3))
       clear hg3
       cases ok with
       |true=>
        have HX:=af (HOLD.out _ HG4.out)
        have HNZ:Hid (gz (eo s R) (j9 s F R fd k IR (j+1))=some y):=af (by rw[HNX.out];rfl)
        clear HNX HCA HNEW HTH
        go_wp2_with fail
        go_roundw
        case rel=>
         obtain⟨e1,e2,e3,e4⟩:=HX.out
         exact⟨j+1,by omega,by go_num,by rw[HNZ.out];rfl,e1,by rw[HNZ.out,←HM.out];exact e2,e3,e4⟩
        case measure=>simp[intOf];omega
       |false=>
        have HX:=af (HNEW.out _ HG4.out)
        have HNZ:Hid (gz (eo s R) (j9 s F R fd k IR (j+1))=some it):=af (by rw[HNX.out];rw[if_neg (by simp),HNY.out];rfl)
        have HT4:=af (HTH.out _ HG4.out)
        clear HNX HCA HOLD HTH HNEW
        go_wp2_with (first
         |(refine wpList_load_mid rfl 175 (.tmp 14) rfl wr2.heap.size 0 rfl L _ HR4.out Tryz.underlying175 rfl HIL.out ?_)
         |(refine wpList_store_mid rfl 175 (.tmp 8) (.tmp 47) rfl (w.heap.size+1) 0 L.toArray rfl rfl HT4.out HILs.out HONA.out ?_))
        go_roundw
        case rel=>
         obtain⟨e1,e2,e3,e4⟩:=HX.out
         exact⟨j+1,by omega,by go_num,by rw[HNZ.out];rfl,e1,by rw[HNZ.out,HFL.out];exact e2,e3,e4⟩
        case measure=>simp[intOf];omega
    ·have ej:j=IR.length:=by omega
     subst ej
     rw[HJA.out] at HC1 ⊢
     obtain⟨f1,hf1⟩:∃ f1,f1=(gz (eo s R) (jy s F R fd (k+1))).isSome:=⟨_,rfl⟩
     rw[←hf1]
     have HF1:=af hf1
     clear hf1 hC0 hC1 hg2 hor HHK HJS
     go_wp2_with fail
     go_roundw
     case rel=>exact⟨k+1,HK1.out,by go_num,by rw[HF1.out],HC0.out,HC1.out,HG2.out⟩
     case measure=>
      have:=HK1.out
      simp[intOf]
      omega
  ·have hkl:k=R.length:=by omega
   subst hkl
   obtain⟨b,hbb⟩:∃ b,b=gz (eo s R) (jy s F R fd R.length):=⟨_,rfl⟩
   rw[←hbb] at hB1 ⊢
   obtain⟨M,hM⟩:∃ M,M=kG (eo s R) b:=⟨_,rfl⟩
   have hMl:M.length=24:=by rw[hM];exact kM _ _
   have HIM:Hid ((Tryz.prog.info? 175).map (·.size)=some M.length):=af (by rw[hMl];exact bC)
   have HIMs:Hid ((Tryz.prog.info? 175).map (·.size)=some M.toArray.size):=af (by rw[List.size_toArray,hMl];exact bC)
   have HOM:Hid (M.toArray.all (·.oneCell')=true):=af (all_oneCell_toArray (by rw[hM];exact pq _ _))
   rw[←hM] at hB1
   have HRM:Hid (wr.rangeAt (w.heap.size+1) 0 M):=af (aF hB1 rfl)
   have hB0':wr.heap[w.heap.size]?=some (.cells ([.int .i64 0,.int .i64 0,.int .i64 0,.int .i64 0,.int .i64 0,.int .i64 0,.int .i64 0,.int .i64 0,.int .i64 0,.int .i64 0,.int .i64 0,.int .i64 0,.int .i64 0,.int .i64 0,.int .i64 0,.int .i64 0,.bool false,.bool false,.bool false,.bool false,.int .i64 0,.int .i64 0,.int .i64 0,.int .i64 0]:List Value).toArray 175 (0,0)):=hB0
   have HTH:Hid (wr.there w.heap.size 0 M.toArray.size):=af (dJ hB0' (by simp[hMl]))
   have HBF:Hid ((wr.setCells w.heap.size 0 M).heap[w.heap.size]?=some (.cells M.toArray 175 (0,0))):=af (nO hB0' (by rw[hMl];rfl))
   have HGF:Hid (w.grownBy (wr.setCells w.heap.size 0 M) none):=af (cw (Nat.le_refl _) _ _ HG.out)
   have HMM:=af hM
   have HBB:=af hbb
   obtain⟨f1,hf1⟩:∃ f1,f1=b.isSome:=⟨_,rfl⟩
   rw[←hf1]
   have HF1:=af hf1
   clear hf1 hM hbb hB0 hB0' hB1 hg
   go_wp2_with (first
    |(refine wpList_load_mid rfl 175 (.tmp 8) rfl (w.heap.size+1) 0 rfl M _ HRM.out Tryz.underlying175 rfl HIM.out ?_)
    |(refine wpList_store_mid rfl 175 (.tmp 6) (.tmp 50) rfl w.heap.size 0 M.toArray rfl rfl HTH.out HIMs.out HOM.out ?_))
   refine bodyPost_ret (aO Tryz.results111 rfl HBF.out Tryz.underlying175 rfl HIMs.out rfl) rfl ⟨?_,HGF.out⟩
   rw[←HBB.out,←HMM.out,←HF1.out]
   rfl
end Go.Proofs.YthlhbjnkohinmabGreat
