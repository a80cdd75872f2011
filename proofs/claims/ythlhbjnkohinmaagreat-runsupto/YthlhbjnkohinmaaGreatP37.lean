import Derived.Test.YthlhbjnkohinmaaGreatP36
namespace Go.Proofs.YthlhbjnkohinmaaGreat
set_option maxRecDepth 100000
set_option maxHeartbeats 8000000
open Go.RowKit
theorem Tryz.infoX:(Tryz.prog.info? 221).map (fun i=>(i.zero,i.size,i.bytes))=some (some (.agg #[.int .i64 0,.bool false,.int .i64 0]),3,24):=by kernel_rfl
theorem nm {w:World}{B:Nat}{e t:TypeId}{size:Nat}{v:Value}{n:Nat}{xs:List Value}{g:Nat}{cs:Array Value}(h:w.ownsRow B e size v n xs)(hb:w.heap[g]?=some (.cells cs t (0,0)))(ht:e≠t)(i:Nat)(u:Value):(w.setCell ⟨g,i,none⟩ u).ownsRow B e size v n xs:=
 aq h (aj (ag w (some g)) (.inl rfl) u) (fun g' hg=>by
  cases hg
  exact⟨cs,t,hb,ht⟩)
def pf (w:World)(o:Option (List (Nat×Option Int)×Bool))(e:Ending)(w':World):Prop:=match o with
 |some q=>∃ v,e=.returned (.tuple #[.agg #[v,.bool q.2],.bool true])∧w'.ownsRow w.heap.size 221 3 v q.1.length (Cf q.1)
 |none=>e=.returned (.tuple #[.agg #[.slice none 0 0,.bool false],.bool false])
theorem Bh (s:ByteArray)(R:List ay)(ra:Option Addr)(rc B:Nat)(wt:Int)(i:In)(w:World)(hr:i.rule<R.length)(hrow:bS w B s (.slice ra R.length rc) R)(hK:∀ p∈R[i.rule].2.2,cT s p=true)(hKl:R[i.rule].2.2.length≤400)(he:∀ n v,i.env n=some v→0≤v∧v≤9):
  Calls Tryz.prog 96 #[.slice ra R.length rc,.agg (aG wt i).toArray] w fun e w'=>pf w (gb s i.env R[i.rule].2.2) e w'∧w.grownBy w' none:=by
 obtain⟨i0,hi0,hz0,hz1,hz2⟩:=info_parts Tryz.infoX
 obtain⟨xs0,hrow1,hpar⟩:=hrow
 obtain⟨a1,m1,c1,a2,m2,c2,x0,x1,x2,o1,o2⟩:=jO R xs0 hpar i.rule hr
 have em2:=ar o2
 subst em2
 obtain⟨gr,hra,_,_,hgr,hrcell⟩:=aE hrow1 (by omega)
 subst hra
 obtain⟨K,hKK⟩:∃ K,K=R[i.rule].2.2:=⟨_,rfl⟩
 rw[←hKK] at x2 o2 hK hKl ⊢
 obtain⟨L,hL⟩:∃ L,L=aG wt i:=⟨_,rfl⟩
 rw[←hL]
 have hLl:L.length=24:=by rw[hL];rfl
 obtain⟨D,hD⟩:∃ D,D=L.drop 16:=⟨_,rfl⟩
 have hDD:D=nL i.env:=by rw[hD,hL];rfl
 have hDl:D.length=8:=by rw[hD];simp[hLl]
 have HID:Hid ((Tryz.prog.info? 174).map (·.size)=some D.length):=af (by rw[hDl];exact gz)
 have HDR:Hid (∀ W:World,W.heap[w.heap.size]?=some (.cells L.toArray 176 (0,0))→W.rangeAt w.heap.size 16 D):=af (fun W h=>bY h (fun j v hv=>by rw[hD,List.getElem?_drop] at hv;exact hv))
 have hb0:(((w.alloc (.cells L.toArray 176)).alloc (.cells #[.slice none 0 0,.bool false] 187)).alloc (.cells #[.slice none 0 0,.bool false] 187)).heap[w.heap.size]?=some (.cells L.toArray 176 (0,0)):=by
  rw[Below.heap_alloc _ _ _ (by simp;omega),Below.heap_alloc _ _ _ (by simp)]
  exact heap_alloc_new w _
 have hb1:(((w.alloc (.cells L.toArray 176)).alloc (.cells #[.slice none 0 0,.bool false] 187)).alloc (.cells #[.slice none 0 0,.bool false] 187)).heap[w.heap.size+1]?=some (.cells #[.slice none 0 0,.bool false] 187 (0,0)):=by
  rw[Below.heap_alloc _ _ _ (by simp)]
  exact bm (by simp)
 have hb2:(((w.alloc (.cells L.toArray 176)).alloc (.cells #[.slice none 0 0,.bool false] 187)).alloc (.cells #[.slice none 0 0,.bool false] 187)).heap[w.heap.size+1+1]?=some (.cells #[.slice none 0 0,.bool false] 187 (0,0)):=bm (by simp)
 obtain⟨rl,hrl⟩:∃ rl,rl=i.rule:=⟨_,rfl⟩
 rw[←hrl] at x2 hr
 have k0:(((w.alloc (.cells L.toArray 176)).alloc (.cells #[.slice none 0 0,.bool false] 187)).alloc (.cells #[.slice none 0 0,.bool false] 187)).cell? ⟨w.heap.size,0,none⟩=some (.int .i64 rl):=bd hb0 (by rw[hL,hrl];rfl)
 have hgw:w.grownBy (((w.alloc (.cells L.toArray 176)).alloc (.cells #[.slice none 0 0,.bool false] 187)).alloc (.cells #[.slice none 0 0,.bool false] 187)) none:=ab (ab (ab (ag _ _) _) _) _
 have d2:(((w.alloc (.cells L.toArray 176)).alloc (.cells #[.slice none 0 0,.bool false] 187)).alloc (.cells #[.slice none 0 0,.bool false] 187)).cell? ⟨gr,rl*3+2,none⟩=some (.slice a2 K.length c2):=am hgw (hrcell _ _ x2)
 have HEF:Hid (∀ (j:Nat) (hj:j<K.length) (W:World),bt s K[j]≠46→Calls Tryz.prog 118 #[.agg D.toArray,.agg (w8 s K[j]).toArray] W fun r w'=>(∃ v,r=.returned v∧B9 s i.env K[j] v)∧W.grownBy w' none):=af (fun j hj W h46=>by
  rw[hDD]
  exact uv s i.env K[j] W (hK _ (List.getElem_mem hj)) h46 he)
 have HK46:Hid (∀ (j:Nat) (hj:j<K.length),(bt s K[j]=46→(eh s K[j]).k=3)∧(bt s K[j]≠46→(eh s K[j]).k=1∨(eh s K[j]).k=2)):=af (fun j hj=>by
  have hok:=hK _ (List.getElem_mem hj)
  unfold cT at hok
  unfold eh
  refine⟨fun h=>by rw[if_neg (by omega),if_neg (by omega)],fun h=>?_⟩
  by_cases h43:bt s K[j]=43
  ·rw[if_pos h43];exact .inl rfl
  ·rw[if_neg h43] at hok ⊢
   by_cases h45:bt s K[j]=45
   ·rw[if_pos h45];exact .inr rfl
   ·rw[if_neg h45] at hok
    simp at hok
    exact absurd hok h)
 have HOT:=af (oe s i.env K)
 have HON:=af (Bc s i.env K)
 have HOL:=af (lg s i.env K)
 have HAR:=af o2
 have HB0:=af hb0
 have HB1:=af hb1
 have HB2:=af hb2
 have HGW:=af hgw
 have hgz:gr≠w.heap.size:=by omega
 have hri:(rl:Int)<(R.length:Int):=by omega
 have hr0:(0:Int)≤(rl:Int):=by omega
 obtain⟨env,henv⟩:∃ env,env=i.env:=⟨_,rfl⟩
 rw[←henv] at HEF HOT HON HOL ⊢
 clear hb0 hb1 hb2 hgw o1 o2 x0 x1 x2 hrcell hrow1 hpar hK hL hD hDD he henv hrl hKK
 go_enter Tryz.func96,Tryz.ntmps96
 go_wp2_with fail
 generalize (((w.alloc (.cells L.toArray 176)).alloc (.cells #[.slice none 0 0,.bool false] 187)).alloc (.cells #[.slice none 0 0,.bool false] 187))=WA at k0 d2 HB0 HB1 HB2 HGW ⊢
 go_loopw [29] (fun t wr=>∃ j:Nat,j≤K.length∧t=.int .i64 j∧∃ ws h v,gb s env (K.take j)=some (ws,h)∧wr.heap[w.heap.size]?=some (.cells L.toArray 176 (0,0))∧wr.heap[w.heap.size+1]?=some (.cells #[.slice none 0 0,.bool false] 187 (0,0))∧wr.heap[w.heap.size+1+1]?=some (.cells #[v,.bool h] 187 (0,0))∧wr.ownsRow w.heap.size 221 3 v ws.length (Cf ws)∧w.grownBy wr none) (fun t _=>K.length - (intOf t).toNat)
 case atStart=>exact⟨0,by omega,rfl,[],false,_,rfl,HB0.out,HB1.out,HB2.out,World.ownsRow_nil _ _ _ _,HGW.out⟩
 case round=>
  obtain⟨j,hj,rfl,ws,h,v,ho,hB0,hB1,hB2,hown,hg⟩:=hrel
  have HG:=af hg
  have HOW:=af hown
  have HO:=af ho
  have HBB0:=af hB0
  have HBB1:=af hB1
  have HBB2:=af hB2
  have l0:=lt_of_block hB0
  have l1:=lt_of_block hB1
  have l2:=lt_of_block hB2
  obtain⟨va,vm,vc,rfl⟩:=an hown
  have em:=ar hown
  subst em
  have q0:wr.cell? ⟨w.heap.size+1+1,0,none⟩=some (.slice va ws.length vc):=by rw[cell_of_row _ _ _ _ _ _ hB2];rfl
  have q1:wr.cell? ⟨w.heap.size+1+1,1,none⟩=some (.bool h):=by rw[cell_of_row _ _ _ _ _ _ hB2];rfl
  have z2:∀ i,wr.frozen? ⟨w.heap.size+1+1,i,none⟩=false:=ai hB2
  have HLT:=af (fun g hg=>(HOW.out.lt g hg).1)
  by_cases hlt:j<K.length
  ·have how:=aq HAR.out hg (fun g hg=>by cases hg)
   obtain⟨ga,rfl,_,_,hgl,hcell⟩:=aE how (by omega)
   obtain⟨A,hA⟩:∃ A,A=w8 s K[j]:=⟨_,rfl⟩
   have HRG:Hid (wr.rangeAt ga (j*8) A):=af (by rw[hA];exact eX (f:=w8 s) (fun _=>rfl) hcell hlt)
   have hAl:A.length=8:=by rw[hA];rfl
   have HIA:Hid ((Tryz.prog.info? 219).map (·.size)=some A.length):=af (by rw[hAl];kernel_rfl)
   have HONA:Hid (A.toArray.all (·.oneCell')=true):=af (all_oneCell_toArray (by rw[hA];exact EZ _ _))
   have HBN:Hid ((wr.alloc (.cells A.toArray 219)).heap[wr.heap.size]?=some (.cells A.toArray 219 (0,0))):=af (heap_alloc_new wr _)
   have HRA:Hid ((wr.alloc (.cells A.toArray 219)).rangeAt wr.heap.size 0 A):=af (aF HBN.out rfl)
   have HRD:Hid ((wr.alloc (.cells A.toArray 219)).rangeAt w.heap.size 16 D):=af (HDR.out _ ((Below.heap_alloc _ _ _ l0).trans hB0))
   obtain⟨kd,hkd⟩:∃ kd,kd=(eh s K[j]).k:=⟨_,rfl⟩
   have kc:(wr.alloc (.cells A.toArray 219)).cell? ⟨wr.heap.size,0,none⟩=some (.int .i64 kd):=bd HBN.out (by rw[hA,hkd];rfl)
   have HT:=af (HOT.out j hlt)
   have HKD:=af (HK46.out j hlt)
   rw[HO.out] at HT
   rw[←hkd] at HKD
   have HEJ:=af (HEF.out j hlt)
   rw[←hA] at HEJ
   have hne:ga≠wr.heap.size:=by omega
   have n2:w.heap.size+1+1≠wr.heap.size:=by omega
   have n2':=n2.symm
   have HGA:Hid (wr.grownBy (wr.alloc (.cells A.toArray 219)) none):=af (ab (ag _ _) _)
   have hwl:=HOL.out j hj (ws,h) HO.out
   simp only at hwl
   clear hA hkd how hcell hown hg ho
   by_cases h46:bt s K[j]=46
   ·have hk3:kd=3:=HKD.out.1 h46
    subst hk3
    have HN:Hid (gb s env (K.take (j+1))=some (ws,true)):=af (by
     rw[HT.out]
     simp[h46])
    have HNO:Hid (((wr.setCell ⟨w.heap.size+1+1,1,none⟩ (.bool true)).alloc (.cells A.toArray 219)).ownsRow w.heap.size 221 3 (.slice va ws.length vc) ws.length (Cf ws)):=af (aq (nm HOW.out hB2 (by decide) 1 (.bool true)) (ab (ag _ none) _) (fun g hg=>by cases hg))
    have HNG:Hid (w.grownBy ((wr.setCell ⟨w.heap.size+1+1,1,none⟩ (.bool true)).alloc (.cells A.toArray 219)) none):=af (ab (aj HG.out (.inr (by show w.heap.size≤w.heap.size+1+1;omega)) _) _)
    have sz:(wr.setCell ⟨w.heap.size+1+1,1,none⟩ (.bool true)).heap.size=wr.heap.size:=by simp[World.setCell]
    have HN0:Hid (((wr.setCell ⟨w.heap.size+1+1,1,none⟩ (.bool true)).alloc (.cells A.toArray 219)).heap[w.heap.size]?=some (.cells L.toArray 176 (0,0))):=af ((Below.heap_alloc _ _ _ (by rw[sz];exact l0)).trans ((jm (by omega)).trans hB0))
    have HN1:Hid (((wr.setCell ⟨w.heap.size+1+1,1,none⟩ (.bool true)).alloc (.cells A.toArray 219)).heap[w.heap.size+1]?=some (.cells #[.slice none 0 0,.bool false] 187 (0,0))):=af ((Below.heap_alloc _ _ _ (by rw[sz];exact l1)).trans ((jm (by omega)).trans hB1))
    have HN2:Hid (((wr.setCell ⟨w.heap.size+1+1,1,none⟩ (.bool true)).alloc (.cells A.toArray 219)).heap[w.heap.size+1+1]?=some (.cells #[.slice va ws.length vc,.bool true] 187 (0,0))):=af ((Below.heap_alloc _ _ _ (by rw[sz];exact l2)).trans (ah hB2 1 _))
    clear hB0 hB1 hB2
    go_wp2_with (first
     |(refine wpList_load_mid rfl 219 (.tmp 31) rfl ga (j*8) rfl A _ HRG.out Tryz.underlying219 rfl HIA.out ?_)
     |(refine az rfl 219 (.tmp 8) (.tmp 32) rfl _ A rfl rfl hAl.symm HIA.out HONA.out ?_))
    go_roundw
    case rel=>exact⟨j+1,by omega,by go_num,ws,true,_,HN.out,HN0.out,HN1.out,HN2.out,HNO.out,HNG.out⟩
    case measure=>simp[intOf];omega
   ·have hk3:(kd==3)=false:=by
     rcases HKD.out.2 h46 with e|e <;> rw[e] <;> rfl
    have HE1:=af (fun W=>HEJ.out W h46)
    clear HKD HEJ
    go_wp2_with (first
     |(refine wpList_load_mid rfl 219 (.tmp 31) rfl ga (j*8) rfl A _ HRG.out Tryz.underlying219 rfl HIA.out ?_)
     |(refine az rfl 219 (.tmp 8) (.tmp 32) rfl _ A rfl rfl hAl.symm HIA.out HONA.out ?_)
     |(refine wpList_load_mid rfl 174 (.tmp 38) rfl w.heap.size 16 rfl D _ HRD.out Tryz.underlying174 rfl HID.out ?_)
     |(refine wpList_load_mid rfl 219 (.tmp 8) rfl wr.heap.size 0 rfl A _ HRA.out Tryz.underlying219 rfl HIA.out ?_))
    go_at_call 118
    refine (HE1.out _).mono ?_
    rintro e w1 ⟨⟨ev,rfl,hev⟩,hg1⟩
    have HG1:Hid (wr.grownBy w1 none):=af (ae HGA.out hg1)
    have b0:=(HG1.out.block _ l0 (by simp)).trans HBB0.out
    have b1:=(HG1.out.block _ l1 (by simp)).trans HBB1.out
    have b2:=(HG1.out.block _ l2 (by simp)).trans HBB2.out
    have s0:=lt_of_block b0
    have s1:=lt_of_block b1
    have s2:=lt_of_block b2
    have hsz1:=HG1.out.size
    clear hg1 HE1 HRG HRA HRD HBN kc q0 q1 z2 hB0 hB1 hB2
    unfold B9 at hev
    cases hx:qM s env K[j] with
    |none=>
     rw[hx] at hev
     obtain⟨xc,xb,xd,rfl⟩:=hev
     have HAN:Hid (gb s env K=none):=af (HON.out (j+1) (by rw[HT.out];simp[h46,hx]))
     have y0:w1.cell? ⟨w.heap.size+1,0,none⟩=some (.slice none 0 0):=by rw[cell_of_row _ _ _ _ _ _ b1];rfl
     have y1:w1.cell? ⟨w.heap.size+1,1,none⟩=some (.bool false):=by rw[cell_of_row _ _ _ _ _ _ b1];rfl
     have zy:∀ i,w1.frozen? ⟨w.heap.size+1,i,none⟩=false:=ai b1
     have n1:w.heap.size+1≠w1.heap.size:=by omega
     have n1':=n1.symm
     have HBF:Hid ((((w1.setCell ⟨w.heap.size+1,0,none⟩ (.slice none 0 0)).setCell ⟨w.heap.size+1,1,none⟩ (.bool false)).alloc (.cells #[.int .i64 xc,.bool xb,.int .i64 xd] 221)).heap[w.heap.size+1]?=some (.cells #[.slice none 0 0,.bool false] 187 (0,0))):=af ((Below.heap_alloc _ _ _ (by simpa [World.setCell] using s1)).trans (ah (ah b1 0 _) 1 _))
     have HGF:Hid (w.grownBy (((w1.setCell ⟨w.heap.size+1,0,none⟩ (.slice none 0 0)).setCell ⟨w.heap.size+1,1,none⟩ (.bool false)).alloc (.cells #[.int .i64 xc,.bool xb,.int .i64 xd] 221)) none):=af (ab (aj (aj (ae HG.out HG1.out) (.inr (by show w.heap.size≤w.heap.size+1;omega)) _) (.inr (by show w.heap.size≤w.heap.size+1;omega)) _) _)
     clear b0 b1 b2 hx
     go_wp2_with fail
     refine bodyPost_ret (aO Tryz.results96 rfl HBF.out Tryz.underlying187 rfl (by kernel_rfl) rfl) rfl ⟨?_,HGF.out⟩
     rw[HAN.out]
     exact rfl
    |some x=>
     rw[hx] at hev
     simp only at hev
     subst hev
     have HN:Hid (gb s env (K.take (j+1))=some (ws++[x],h)):=af (by
      rw[HT.out]
      simp[h46,hx])
     obtain⟨E,hE⟩:∃ E,E=Eq x:=⟨_,rfl⟩
     rw[←hE]
     have hEl:E.length=3:=by rw[hE];rfl
     have HIE:Hid ((Tryz.prog.info? 221).map (·.size)=some E.length):=af (by rw[hEl];kernel_rfl)
     have HIZ:Hid ((Tryz.prog.info? 221).map (fun i=>(i.zero,i.size))=some (some (.agg #[.int .i64 0,.bool false,.int .i64 0]),E.length)):=af (by rw[hEl];kernel_rfl)
     have HOE:Hid (∀ u∈E,u.oneCell'=true):=af (by rw[hE];exact yy x)
     have HOEA:Hid (E.toArray.all (·.oneCell')=true):=af (all_oneCell_toArray HOE.out)
     have HFI:Hid (∀ (w3:World) (v':Value),w3.ownsRow w.heap.size 221 3 v' (ws.length+1) (Cf ws++E)→w3.ownsRow w.heap.size 221 3 v' (ws++[x]).length (Cf (ws++[x]))):=af (fun w3 v' hh=>by
      rw[hE] at hh
      rw[List.length_append]
      simpa [Cf] using hh)
     have HRE:Hid ((w1.alloc (.cells E.toArray 221)).rangeAt w1.heap.size 0 E):=af (aF (heap_alloc_new w1 _) rfl)
     have y0:(w1.alloc (.cells E.toArray 221)).cell? ⟨w.heap.size+1+1,0,none⟩=some (.slice va ws.length vc):=by rw[cell_of_row _ _ _ _ _ _ ((Below.heap_alloc _ _ _ s2).trans b2)];rfl
     have how1:=aq (aq HOW.out HG1.out (fun g hg=>by cases hg)) (ab (ab (ag w1 none) (.cells E.toArray 221)) (.cells E.toArray 221)) (fun g hg=>by cases hg)
     obtain⟨nl,hnl⟩:∃ nl,nl=ws.length:=⟨_,rfl⟩
     obtain⟨xs,hxs⟩:∃ xs,xs=Cf ws:=⟨_,rfl⟩
     have HOW2:=af HOW.out
     rw[←hnl] at HFI HLT how1 y0 hwl
     rw[←hxs] at HFI how1
     have HBK:Hid (∀ (g:Nat) (t:TypeId) (cs:Array Value),w1.heap[g]?=some (.cells cs t (0,0))→t≠221→∀ w3:World,((w1.alloc (.cells E.toArray 221)).alloc (.cells E.toArray 221)).grownBy w3 (Value.slice va nl vc).ownBlock→w3.heap[g]?=some (.cells cs t (0,0))):=af (fun g t cs hgb ht w3 hg3=>by
      have hl:=lt_of_block hgb
      have h4:=(Below.heap_alloc (w1.alloc (.cells E.toArray 221)) (.cells E.toArray 221) g (by simp;omega)).trans ((Below.heap_alloc w1 (.cells E.toArray 221) g hl).trans hgb)
      exact (hg3.block _ (lt_of_block h4) (fun e=>aT how1 h4 (fun e2=>ht e2.symm) e.symm)).trans h4)
     have K0:=af b0
     have K1:=af b1
     have K2:=af b2
     rw[←hnl] at K2
     clear hE hnl hxs b0 b1 b2 hx
     go_wp2_with (first
      |(refine az rfl 221 (.tmp 9) (.tmp 42) rfl _ E rfl rfl hEl.symm HIE.out HOEA.out ?_)
      |(refine wpList_load_mid rfl 221 (.tmp 9) rfl w1.heap.size 0 rfl E _ HRE.out Tryz.underlying221 rfl HIE.out ?_)
      |(refine br rfl 185 221 (.tmp 49) rfl _ E rfl Tryz.underlying185 HIZ.out (by omega) (by omega) ?_)
      |(at_builtin;refine wpList_append_own _ rfl (.tmp 48) (.tmp 50) 185 rfl (w.heap.size) 221 i0 (.agg #[.int .i64 0,.bool false,.int .i64 0]) 3 24 Tryz.underlying185 hi0 hz0 hz1 hz2 rfl (by decide) _ _ _ rfl how1 _ 1 1 E rfl (by omega) (fun j u hj=>bj hj) HOE.out (by unfold maxLen;omega) (by omega) (by simp;omega) ?_))
     intro v3 w3 hown3 hg3 _
     have G0:=HBK.out _ _ _ K0.out (by decide) w3 hg3
     have G1:=HBK.out _ _ _ K1.out (by decide) w3 hg3
     have G2:=HBK.out _ _ _ K2.out (by decide) w3 hg3
     have HO3:=af (nm (HFI.out _ _ hown3) G2 (by decide) 0 v3)
     have HGG:Hid (w.grownBy (w3.setCell ⟨w.heap.size+1+1,0,none⟩ v3) none):=af (aj (aL (ae HG.out (ae HG1.out (ab (ab (ag w1 none) _) _))) hg3 HLT.out) (.inr (by show w.heap.size≤w.heap.size+1+1;omega)) _)
     have u0:w3.cell? ⟨w.heap.size+1+1,0,none⟩=some (.slice va nl vc):=by rw[cell_of_row _ _ _ _ _ _ G2];rfl
     have zu:∀ i,w3.frozen? ⟨w.heap.size+1+1,i,none⟩=false:=ai G2
     have HF0:Hid ((w3.setCell ⟨w.heap.size+1+1,0,none⟩ v3).heap[w.heap.size]?=some (.cells L.toArray 176 (0,0))):=af ((jm (by omega)).trans G0)
     have HF1:Hid ((w3.setCell ⟨w.heap.size+1+1,0,none⟩ v3).heap[w.heap.size+1]?=some (.cells #[.slice none 0 0,.bool false] 187 (0,0))):=af ((jm (by omega)).trans G1)
     have HF2:Hid ((w3.setCell ⟨w.heap.size+1+1,0,none⟩ v3).heap[w.heap.size+1+1]?=some (.cells #[v3,.bool h] 187 (0,0))):=af (ah G2 0 _)
     obtain⟨va3,vm3,vc3,rfl⟩:=an hown3
     clear hown3 hg3 G0 G1 G2 how1 HBK
     go_wp2_with fail
     go_roundw
     case rel=>exact⟨j+1,by omega,by go_num,ws++[x],h,_,HN.out,HF0.out,HF1.out,HF2.out,HO3.out,HGG.out⟩
     case measure=>simp[intOf];omega
  ·have hjl:j=K.length:=by omega
   subst hjl
   rw[List.take_length] at HO
   have y0:wr.cell? ⟨w.heap.size+1,0,none⟩=some (.slice none 0 0):=by rw[cell_of_row _ _ _ _ _ _ hB1];rfl
   have y1:wr.cell? ⟨w.heap.size+1,1,none⟩=some (.bool false):=by rw[cell_of_row _ _ _ _ _ _ hB1];rfl
   have zy:∀ i,wr.frozen? ⟨w.heap.size+1,i,none⟩=false:=ai hB1
   have HBF:Hid (((wr.setCell ⟨w.heap.size+1,0,none⟩ (.slice va ws.length vc)).setCell ⟨w.heap.size+1,1,none⟩ (.bool h)).heap[w.heap.size+1]?=some (.cells #[.slice va ws.length vc,.bool h] 187 (0,0))):=af (ah (ah hB1 0 _) 1 _)
   have HGF:Hid (w.grownBy ((wr.setCell ⟨w.heap.size+1,0,none⟩ (.slice va ws.length vc)).setCell ⟨w.heap.size+1,1,none⟩ (.bool h)) none):=af (aj (aj HG.out (.inr (by show w.heap.size≤w.heap.size+1;omega)) _) (.inr (by show w.heap.size≤w.heap.size+1;omega)) _)
   have HOF:Hid (((wr.setCell ⟨w.heap.size+1,0,none⟩ (.slice va ws.length vc)).setCell ⟨w.heap.size+1,1,none⟩ (.bool h)).ownsRow w.heap.size 221 3 (.slice va ws.length vc) ws.length (Cf ws)):=af (nm (nm HOW.out hB1 (by decide) 0 _) (ah hB1 0 _) (by decide) 1 _)
   clear hB0 hB1 hB2 hown hg ho
   go_wp2_with fail
   refine bodyPost_ret (aO Tryz.results96 rfl HBF.out Tryz.underlying187 rfl (by kernel_rfl) rfl) rfl ⟨?_,HGF.out⟩
   rw[HO.out]
   exact⟨_,rfl,HOF.out⟩
end Go.Proofs.YthlhbjnkohinmaaGreat
