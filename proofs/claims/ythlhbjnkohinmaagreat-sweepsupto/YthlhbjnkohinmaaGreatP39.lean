import Derived.Test.YthlhbjnkohinmaaGreatP38
namespace Go.Proofs.YthlhbjnkohinmaaGreat
set_option maxRecDepth 100000
set_option maxHeartbeats 8000000
open Go.RowKit
theorem cJ.grown {w w':World}{b o:Nat}{S:aJ}(h:cJ w b o S)(hW:w.grownBy w' none):cJ w' b o S:=
 ⟨am hW h.num,am hW h.snap,am hW h.cnt,fun c hc=>am hW (h.made c hc),fun c hc=>am hW (h.filled c hc),fun c hc=>am hW (h.val c hc),fun c hc=>am hW (h.tm c hc),am hW h.mks,h.ok⟩
def puts (S:aJ)(ws:List (Nat×Option Int)):aJ:=ws.foldl (fun S q=>S.put q.1 q.2) S
theorem AF (S:aJ)(ws:List (Nat×Option Int))(j:Nat)(hj:j<ws.length):puts S (ws.take (j+1))=(puts S (ws.take j)).put ws[j].1 ws[j].2:=by
 unfold puts
 rw[List.take_succ_eq_append_getElem hj,List.foldl_append]
 rfl
theorem nL (ws:List (Nat×Option Int)):∀ S:aJ,(puts S ws).made=S.made+ws.length∧(puts S ws).snap=S.snap∧(puts S ws).mks=S.mks:=by
 induction ws with
 |nil=>intro S;simp[puts]
 |cons q ws ih=>
  intro S
  obtain⟨h1,h2,h3⟩:=ih (S.put q.1 q.2)
  unfold puts at*
  rw[List.foldl_cons]
  refine⟨?_,h2,h3⟩
  rw[h1]
  simp[aJ.put]
  omega
theorem DV.same {b o:Nat}{G:List Nat}{w w':World}(h:DV b o G w w'){w2:World}(hc:kB w' w2 b o 244):DV b o G w w2:=
 ⟨h.fr.trans (hc.fr.mono (fun k hk=>.inl (by simp at hk;simp[hk]))),fun i hi=>(hc.cell i hi).trans (h.cell i hi),fun hb=>by
  obtain⟨cs,h1⟩:=h.blk hb
  exact hc.blk h1⟩
theorem DV.before {b o:Nat}{G:List Nat}{w W w':World}(h:DV b o G W w')(hW:Fr [] w W)(hb:b<w.heap.size):DV b o G w w':=by
 have e:=hW.block b hb (by simp)
 refine⟨(hW.mono (fun k hk=>by cases hk)).trans h.fr,fun i hi=>(h.cell i hi).trans (by simp only[World.cell?,e]),fun hk=>h.blk (e.trans hk)⟩
def qz (b o:Nat)(S:aJ)(fm:Nat→Option Int)(p:Nat)(t:Int)(ws:List (Nat×Option Int))(w w':World):Prop:=∃ g,cJ w' b o (puts { S with mks:=some g } ws)∧jH (some g) (cG fm p (some t)) w'∧DV b o S.mks.toList w w'∧g≠b∧(S.mks=some g∨w.heap.size≤g)
theorem zT (wt:Int)(i:In)(b o:Nat)(S:aJ)(fm:Nat→Option Int)(ws:List (Nat×Option Int))(ea:Option Addr)(ec BE:Nat)(w:World){cs:Array Value}{ty:TypeId}(hb:w.heap[b]?=some (.cells cs ty (0,0)))(hr:i.rule<9)(hl:i.facts.length≤3)(h:cJ w b o S)(hM:jH S.mks fm w)(hne:S.mks≠some b)
  (hws:∀ q∈ws,q.1<60) (hwl:ws.length≤400) (hrow:w.ownsRow BE 221 3 (.slice ea ws.length ec) ws.length (Dt ws)) (hBE:b<BE) (hGE:∀ g,S.mks=some g→g<BE) (hsn:0≤S.snap) (hmo:S.snap+(S.made+401)≤9223372036854775807) :
  Calls Tryz.prog 97 #[.pointer (some ⟨b,o,none⟩),.agg (aG wt i).toArray,.slice ea ws.length ec] w fun e w'=>e=.returned (.tuple #[])∧qz b o S fm (bX i) (b8 i.facts) ws w w':=by
 have hbl:=lt_of_block hb
 have HADD:Hid (∀ W,w.grownBy W none→Calls Tryz.prog 119 #[.pointer (some ⟨b,o+243,none⟩),.agg (aG wt i).toArray] W fun e w'=>e=.returned (.tuple #[])∧Fn b o S fm (bX i) (b8 i.facts) W w'):=af (fun W hW=>Bi wt i b o S fm W ((hW.block b hbl (by simp)).trans hb) hr hl (h.grown hW) (hM.grown hW) hne)
 obtain⟨L,hL⟩:∃ L,L=aG wt i:=⟨_,rfl⟩
 have hLl:L.length=24:=by rw[hL];rfl
 rw[←hL] at HADD ⊢
 have HIL:Hid ((Tryz.prog.info? 176).map (·.size)=some L.length):=af (by rw[hLl];exact bC)
 have HBN:Hid ((w.alloc (.cells L.toArray 176)).heap[w.heap.size]?=some (.cells L.toArray 176 (0,0))):=af (heap_alloc_new w _)
 have HRL:Hid ((w.alloc (.cells L.toArray 176)).rangeAt w.heap.size 0 L):=af (aF HBN.out rfl)
 have HG0:Hid (w.grownBy (w.alloc (.cells L.toArray 176)) none):=af (ab (ag _ _) _)
 have HROW:=af hrow
 have HGE:=af hGE
 have HB:=af hb
 have HGL:Hid (∀ g,S.mks=some g→g<w.heap.size):=af (fun g hg=>by
  rw[hg] at hM
  obtain⟨Z,h1,_⟩:=hM
  exact lt_of_block h1)
 have HWS:=af hws
 obtain⟨pp,hpp⟩:∃ pp,pp=bX i:=⟨_,rfl⟩
 obtain⟨lt,hlt⟩:∃ lt,lt=b8 i.facts:=⟨_,rfl⟩
 rw[←hpp,←hlt] at HADD ⊢
 clear hL hrow hGE hM h hb hpp hlt hws
 go_enter Tryz.func97,Tryz.ntmps97
 go_wp2_with fail
 refine wp_region_held_drew (S:=fun W=>W.rangeAt w.heap.size 0 L) (by kernel_rfl) HRL.out (fun hHeld=>?_)
 refine wpAnyH_take (i:=0) (v:=.pointer (some ⟨b,o,none⟩)) rfl (by kernel_rfl) (by kernel_rfl) (by kernel_rfl) (fun _ _ _ h=>h) (Or.inl ⟨by rfl,?_⟩) hHeld ?_
 ·intro W hSw
  go_simp
 refine wpAnyH_take (i:=1) (v:=.pointer (some ⟨b,o,none⟩)) rfl (by kernel_rfl) (by kernel_rfl) (by kernel_rfl) (fun _ _ _ h=>h) (Or.inl ⟨by rfl,?_⟩) hHeld ?_
 ·intro W hSw
  go_simp
 refine wpAnyH_take (i:=2) (v:=.pointer (some ⟨b,o+243,none⟩)) rfl (by kernel_rfl) (by kernel_rfl) (by kernel_rfl) (fun _ _ _ h=>h) (Or.inl ⟨by rfl,?_⟩) hHeld ?_
 ·intro W hSw
  go_simp
 refine wpAnyH_take (i:=3) (v:=.agg L.toArray) rfl (by kernel_rfl) (by kernel_rfl) (by kernel_rfl) (fun _ _ _ h=>h) (yieldsIf_load_mid (by rfl) 176 _ rfl w.heap.size 0 rfl L _ (fun W hSw=>hSw) Tryz.underlying176 rfl HIL.out) hHeld ?_
 refine wpAnyH_ready (rs:=[4]) (by kernel_rfl) (by simp) ?_
 refine AllReadyH.cons (o:=_) rfl (fun K hK=>?_) AllReadyH.nil
 go_simp
 go_at_call 119
 refine (HADD.out _ (al HG0.out 1)).mono ?_
 rintro e w1 ⟨rfl,hadd⟩
 obtain⟨g,hS1,hM1,hF1,hgb,hgo⟩:=hadd
 have hr1:w1.rangeAt w.heap.size 0 L:=aF ((hF1.fr.block w.heap.size (lt_of_block HBN.out) (fun hm=>by
  rcases List.mem_cons.mp hm with e|e
  ·omega
  ·cases hk:S.mks with
   |none=>rw[hk] at e;cases e
   |some g2=>
    rw[hk] at e
    simp at e
    have h1:=HGE.out g2 hk
    have h2:=HGL.out g2 hk
    omega)).trans HBN.out) rfl
 go_wp2_with fail
 refine hK.out _ _ hr1 (fun hHeld2=>?_)
 clear hK K
 refine wpAnyH_done (by kernel_rfl) ?_ _
 have HF1:Hid (DV b o S.mks.toList w w1):=af (hF1.before (((aA w _)).drewN 1) hbl)
 have HS1:=af hS1
 have HM1:=af hM1
 have HGO:Hid (S.mks=some g∨w.heap.size≤g):=af (by
  rcases hgo with h|h
  ·exact .inl h
  ·refine .inr (Nat.le_trans ?_ h)
   have:=(aA w (.cells L.toArray 176)).size
   exact this)
 obtain⟨cs1,hb1⟩:=HF1.out.blk HB.out
 have HB1:=af hb1
 have HRW:Hid (∀ wr,kB w1 wr b o 244→wr.ownsRow BE 221 3 (.slice ea ws.length ec) ws.length (Dt ws)):=af (fun wr hc=>FF HROW.out (HF1.out.same hc).fr (fun k hk=>by
  rcases List.mem_cons.mp hk with e|e
  ·omega
  ·cases hx:S.mks with
   |none=>rw[hx] at e;cases e
   |some g2=>
    rw[hx] at e
    simp at e
    have:=HGE.out g2 hx
    omega))
 obtain⟨S1,hS1e⟩:∃ S1:aJ,S1={ S with mks:=some g }:=⟨_,rfl⟩
 have HS1E:=af hS1e
 rw[←hS1e] at HS1
 have HMORE:Hid (∀ j,j≤400→(puts S1 (ws.take j)).more):=af (fun j hj=>by
  obtain⟨h1,h2,_⟩:=nL (ws.take j) S1
  unfold aJ.more
  rw[h1,h2,hS1e]
  have h3:=List.length_take_le j ws
  simp only
  omega)
 clear hF1 hS1 hM1 hgo hHeld hHeld2 hr1 HADD hb1 hS1e HRL HBN hmo hsn
 go_wp2_with fail
 go_loopw [15] (fun t wr=>∃ j:Nat,j≤ws.length∧t=.int .i64 j∧cJ wr b o (puts S1 (ws.take j))∧kB w1 wr b o 244) (fun t _=>ws.length - (intOf t).toNat)
 case atStart=>exact⟨0,by omega,rfl,HS1.out,kB.refl _ _ _ _⟩
 case round=>
  obtain⟨j,hj,rfl,hses,hch⟩:=hrel
  have HSES:=af hses
  have HCH:=af hch
  by_cases hlt:j<ws.length
  ·obtain⟨ge,rfl,_,_,hgel,hecell⟩:=aC (HRW.out wr hch) (by omega)
   obtain⟨E,hE⟩:∃ E,E=E5 ws[j]:=⟨_,rfl⟩
   have hEl:E.length=3:=by rw[hE];rfl
   have HRG:Hid (wr.rangeAt ge (j*3) E):=af (by rw[hE];exact eU (f:=E5) (fun _=>rfl) hecell hlt)
   have HIE:Hid ((Tryz.prog.info? 221).map (·.size)=some E.length):=af (by rw[hEl];kernel_rfl)
   have HOEA:Hid (E.toArray.all (·.oneCell')=true):=af (all_oneCell_toArray (by rw[hE];exact yB _))
   have hbn:(wr.alloc (.cells E.toArray 221)).heap[wr.heap.size]?=some (.cells E.toArray 221 (0,0)):=heap_alloc_new wr _
   obtain⟨c,hc⟩:∃ c,c=ws[j].1:=⟨_,rfl⟩
   obtain⟨v,hv⟩:∃ v,v=ws[j].2:=⟨_,rfl⟩
   have k0:(wr.alloc (.cells E.toArray 221)).cell? ⟨wr.heap.size,0,none⟩=some (.int .i64 c):=ba hbn (by rw[hE,hc];rfl)
   have k1:(wr.alloc (.cells E.toArray 221)).cell? ⟨wr.heap.size,1,none⟩=some (.bool v.isSome):=ba hbn (by rw[hE,hv];rfl)
   have k2:(wr.alloc (.cells E.toArray 221)).cell? ⟨wr.heap.size,2,none⟩=some (.int .i64 (v.getD 0)):=ba hbn (by rw[hE,hv];rfl)
   obtain⟨cs2,hb2⟩:=hch.blk HB1.out
   have hbl2:=lt_of_block hb2
   have hc60:c<60:=by rw[hc];exact HWS.out _ (List.getElem_mem hlt)
   have HREC:=af (n7 b o c v (puts S1 (ws.take j)) (wr.alloc (.cells E.toArray 221)) hc60 ((Below.heap_alloc _ _ _ hbl2).trans hb2) (hses.grown (ab (ag _ _) _)) (HMORE.out j (by omega)))
   have HPT:=af (AF S1 ws j hlt)
   rw[←hc,←hv] at HPT
   obtain⟨vs,hvs⟩:∃ vs,vs=v.isSome:=⟨_,rfl⟩
   obtain⟨vg,hvg⟩:∃ vg,vg=v.getD 0:=⟨_,rfl⟩
   rw[←hvs] at k1 HREC
   rw[←hvg] at k2 HREC
   have hne2:ge≠wr.heap.size:=by omega
   have HAL:Hid (kB w1 (wr.alloc (.cells E.toArray 221)) b o 244):=af (hch.alloc (lt_of_block HB1.out) _)
   clear hE hc hv hvs hvg hbn hb2 hses hch hecell
   go_wp2_with (first
    |(refine wpList_load_mid rfl 221 (.tmp 17) rfl ge (j*3) rfl E _ HRG.out Tryz.underlying221 rfl HIE.out ?_)
    |(refine az rfl 221 (.tmp 7) (.tmp 18) rfl _ E rfl rfl hEl.symm HIE.out HOEA.out ?_))
   go_at_call 81
   refine HREC.out.mono ?_
   rintro e w2 ⟨rfl,hput⟩
   have HS2:Hid (cJ w2 b o (puts S1 (ws.take (j+1)))):=af (by rw[HPT.out];exact hput.ses)
   have HC2:Hid (kB w1 w2 b o 244):=af (HAL.out.trans hput.chg)
   clear hput HREC
   go_wp2_with fail
   go_roundw
   case rel=>exact⟨j+1,by omega,by go_num,HS2.out,HC2.out⟩
   case measure=>simp[intOf];omega
  ·have hjl:j=ws.length:=by omega
   subst hjl
   rw[List.take_length] at HSES
   have HMF:Hid (jH (some g) (cG fm pp (some lt)) wr):=af (by
    obtain⟨Z,h1,h2⟩:=HM1.out
    exact⟨Z,(hch.fr.block g (lt_of_block h1) (by simpa using hgb)).trans h1,h2⟩)
   clear hses hch
   go_wp2_with fail
   go_returns
   refine⟨rfl,g,?_,HMF.out,HF1.out.same HCH.out,hgb,HGO.out⟩
   rw[←HS1E.out]
   exact HSES.out
structure yt (S:aJ)(f:Nat→Int×Option Int):Prop where
 wr:∀ c v,S.wr c=some (some v)→0≤v∧v≤9
 his:∀ c v,(f c).2=some v→0≤v∧v≤9
theorem yt.facts {S:aJ}{f:Nat→Int×Option Int}(h:yt S f):rk (di S f 60):=by
 intro q hq
 unfold di at hq
 obtain⟨c,hc,hm⟩:=List.mem_filterMap.mp hq
 cases hs:cK S f c with
 |none=>rw[hs] at hm;cases hm
 |some p=>
  rw[hs] at hm
  simp only[Option.map_some,Option.some.injEq] at hm
  rw[←hm]
  refine⟨by simpa using hc,?_⟩
  unfold cK at hs
  cases hw:S.wr c with
  |none=>
   rw[hw] at hs
   simp only at hs
   cases hf:(f c).2 with
   |none=>rw[hf] at hs;cases hs
   |some v=>
    rw[hf] at hs
    simp only[Option.map_some,Option.some.injEq] at hs
    rw[←hs]
    exact h.his c v hf
  |some u=>
   rw[hw] at hs
   simp only at hs
   cases u with
   |none=>cases hs
   |some v=>
    simp only[Option.map_some,Option.some.injEq] at hs
    rw[←hs]
    exact h.wr c v hw
theorem E6 {s:ByteArray}{e:fq}{p:Nat}{x:Nat×Option Int}(hok:cT s p=true)(h46:bt s p≠46)(h:pS s e p=some x):x.1<60∧∀ v,x.2=some v→0≤v∧v≤9:=by
 unfold cT at hok
 unfold pS at h
 by_cases h43:bt s p=43
 ·rw[if_pos h43] at hok h
  unfold fJ at hok
  simp only[Bool.and_eq_true] at hok
  have hc:97≤bt s (p+1)∧bt s (p+1)≤102:=by
   have:=hok.1.1
   simp[aR] at this
   exact this
  split at h
  ·rename_i hd
   cases h
   refine⟨by simp only;omega,fun v hv=>?_⟩
   simp only[Option.some.injEq] at hv
   omega
  ·cases h
 ·rw[if_neg h43] at hok h
  by_cases h45:bt s p=45
  ·rw[if_pos h45] at hok
   unfold gq at hok
   simp only[Bool.and_eq_true] at hok
   have hc:97≤bt s (p+1)∧bt s (p+1)≤102:=by
    have:=hok.1
    simp[aR] at this
    exact this
   split at h
   ·cases h
    refine⟨by simp only;omega,fun v hv=>by cases hv⟩
   ·cases h
  ·rw[if_neg h45] at hok
   simp at hok
   exact absurd hok h46
theorem mK {s:ByteArray}{e:fq}{K:List Nat}(hK:∀ p∈K,cT s p=true):∀ j,j≤K.length→∀ q,fW s e (K.take j)=some q→∀ x∈q.1,x.1<60∧∀ v,x.2=some v→0≤v∧v≤9
 |0,_,q,h=>by
  have:q=([],false):=by simpa [fW] using h.symm
  rw[this]
  intro x hx
  cases hx
 |j+1,hj,q,h=>by
  have hlt:j<K.length:=by omega
  rw[nT s e K j hlt] at h
  cases ho:fW s e (K.take j) with
  |none=>rw[ho] at h;cases h
  |some r=>
   have ih:=mK hK j (by omega) r ho
   rw[ho] at h
   simp only[Option.bind_some] at h
   by_cases h46:bt s K[j]=46
   ·rw[if_pos h46] at h
    cases h
    exact ih
   ·rw[if_neg h46] at h
    cases hx:pS s e K[j] with
    |none=>rw[hx] at h;cases h
    |some x=>
     rw[hx] at h
     cases h
     intro y hy
     rcases List.mem_append.mp hy with hy|hy
     ·exact ih y hy
     ·simp at hy
      rw[hy]
      exact E6 (hK _ (List.getElem_mem hlt)) h46 hx
theorem yt.puts {f:Nat→Int×Option Int}{ws:List (Nat×Option Int)}(hw:∀ x∈ws,∀ v,x.2=some v→0≤v∧v≤9):∀ {S:aJ},yt S f→yt (puts S ws) f:=by
 induction ws with
 |nil=>intro S h;exact h
 |cons q ws ih=>
  intro S h
  refine ih (fun x hx=>hw x (by simp[hx])) ⟨fun c v hv=>?_,h.his⟩
  have hv':cG S.wr q.1 (some q.2) c=some (some v):=hv
  unfold cG at hv'
  split at hv'
  ·simp only[Option.some.injEq] at hv'
   exact hw q (by simp) v hv'
  ·exact h.wr c v hv'
def jN (s:ByteArray)(R:List ay)(f:Nat→Int×Option Int)(S:aJ)(fm:Nat→Option Int):Option In:=gz (eh s R) (jr s (di S f 60) R (wy fm) R.length)
theorem uP {s:ByteArray}{R:List ay}{f:Nat→Int×Option Int}{S:aJ}{fm:Nat→Option Int}{i:In}(h:jN s R f S fm=some i):i∈bz 0 s (di S f 60) R R.length:=by
 unfold jN gz at h
 have h1:=List.mem_of_mem_head? h
 exact (List.mem_filter.mp (lk.mp h1)).1
theorem mH {s:ByteArray}{F:List aw}{R:List ay}(hF:rk F)(hFl:F.length≤60)(hR:∀ r∈R,mj s r){i:In}(h:i∈bz 0 s F R R.length):i.rule<R.length∧i.facts.length≤3∧∀ n v,i.env n=some v→0≤v∧v≤9:=by
 unfold bz at h
 obtain⟨k,hk,hm⟩:=List.mem_flatMap.mp h
 have hk':k<R.length:=by simpa using hk
 have e:R.getD k (0,[],[])=R[k]:=by simp[List.getD,List.getElem?_eq_getElem hk']
 rw[e] at hm
 obtain⟨h1,h2⟩:=iG hFl k (hR _ (List.getElem_mem hk')) i hm
 exact⟨by omega,h1,(pO hF k _ i hm).env⟩
def cU (s:ByteArray)(R:List ay)(f:Nat→Int×Option Int):Nat→aJ→(Nat→Option Int)→(Nat×Int)×aJ×(Nat→Option Int)
 |0,S,fm=>((0,if (jN s R f S fm).isSome then 2 else 1),S,fm)
 |n+1,S,fm=>match jN s R f S fm with
  |none=>((0,1),S,fm)
  |some i=>match fW s i.env (R.getD i.rule (0,[],[])).2.2 with
   |none=>((0,4),S,fm)
   |some q=>if q.2 then ((1,3),puts S q.1,cG fm (bX i) (some (b8 i.facts))) else
    (((cU s R f n (puts S q.1) (cG fm (bX i) (some (b8 i.facts)))).1.1+1,(cU s R f n (puts S q.1) (cG fm (bX i) (some (b8 i.facts)))).1.2),(cU s R f n (puts S q.1) (cG fm (bX i) (some (b8 i.facts)))).2)
structure fI (b o:Nat)(G:List Nat)(S:aJ)(fm:Nat→Option Int)(m:Option Nat)(w0 w:World):Prop where
 ses:cJ w b o { S with mks:=m }
 mar:jH m fm w
 chg:DV b o G w0 w
 ne:m≠some b
 old:∀ g,m=some g→g∈G∨w0.heap.size≤g
theorem fI.grown {b o:Nat}{G:List Nat}{S:aJ}{fm:Nat→Option Int}{m:Option Nat}{w0 w w':World}(h:fI b o G S fm m w0 w)(hg:w.grownBy w' none):fI b o G S fm m w0 w':=
 ⟨h.ses.grown hg,h.mar.grown hg,⟨h.chg.fr.trans ((aK hg).mono (fun k hk=>by cases hk)),fun i hi=>by
  rw[←h.chg.cell i hi]
  have hl:b<w.heap.size:=World.block_lt_of_cell? w _ h.ses.num
  simp only[World.cell?,hg.block b hl (by simp)],fun hk=>by
  obtain⟨cs,h1⟩:=h.chg.blk hk
  exact⟨cs,(hg.block b (lt_of_block h1) (by simp)).trans h1⟩⟩,h.ne,h.old⟩
theorem fI.fire {b o p:Nat}{t:Int}{G:List Nat}{S:aJ}{fm:Nat→Option Int}{m:Option Nat}{ws:List (Nat×Option Int)}{w0 w w':World}(h:fI b o G S fm m w0 w)(hf:qz b o { S with mks:=m } fm p t ws w w'):∃ g,fI b o G (puts S ws) (cG fm p (some t)) (some g) w0 w':=by
 obtain⟨g,h1,h2,h3,h4,h5⟩:=hf
 have hp:∀ (ws:List (Nat×Option Int)) (S:aJ) (x:Option Nat),puts { S with mks:=x } ws={ puts S ws with mks:=x }:=by
  intro ws
  induction ws with
  |nil=>intro S x;rfl
  |cons q ws ih=>intro S x;exact ih (S.put q.1 q.2) x
 have hm:∀ k,k<w0.heap.size→k∉b::G→k∉b::m.toList:=by
  intro k hk hn hx
  rcases List.mem_cons.mp hx with e|e
  ·exact hn (by simp[e])
  ·cases hmm:m with
   |none=>rw[hmm] at e;cases e
   |some g2=>
    rw[hmm] at e
    simp at e
    rcases h.old g2 hmm with hg|hg
    ·exact hn (by simp[e,hg])
    ·omega
 have hsz0:=h.chg.fr.size
 refine⟨g,⟨by rw[←hp];exact h1,h2,⟨⟨h3.fr.os.trans h.chg.fr.os,h3.fr.tape.trans h.chg.fr.tape,h3.fr.output.trans h.chg.fr.output,Nat.le_trans hsz0 h3.fr.size,fun k hk hn=>(h3.fr.block k (by omega) (hm k hk hn)).trans (h.chg.fr.block k hk hn)⟩,fun i hi=>(h3.cell i hi).trans (h.chg.cell i hi),fun hk=>?_⟩,fun e=>h4 (Option.some.inj e),fun g2 hg2=>?_⟩⟩
 ·obtain⟨cs,q1⟩:=h.chg.blk hk
  exact h3.blk q1
 ·cases hg2
  rcases h5 with h5|h5
  ·exact h.old g h5
  ·exact .inr (by omega)
theorem qz.block {b o p:Nat}{t:Int}{S:aJ}{fm:Nat→Option Int}{ws:List (Nat×Option Int)}{w w':World}(h:qz b o S fm p t ws w w'){k:Nat}(hk:k<w.heap.size)(hb:k≠b)(hg:∀ g,S.mks=some g→k≠g):w'.heap[k]?=w.heap[k]?:=by
 obtain⟨_,_,_,h3,_,_⟩:=h
 refine h3.fr.block k hk (fun hm=>?_)
 rcases List.mem_cons.mp hm with e|e
 ·exact hb e
 ·cases hx:S.mks with
  |none=>rw[hx] at e;cases e
  |some g=>
   rw[hx] at e
   simp at e
   exact hg g hx e
theorem Dk (b o:Nat)(S:aJ)(fm:Nat→Option Int)(f:Nat→Int×Option Int)(sl:List Value)(s:ByteArray)(R:List ay)(ra:Option Addr)(rc B:Nat)(fuel:Nat)(w:World){cs:Array Value}{ty:TypeId}(hb:w.heap[b]?=some (.cells cs ty (0,0)))(h:cJ w b o S)(hM:jH S.mks fm w)(hne:S.mks≠some b)(hsc:jl sl.toArray 60 f)(hw:yt S f)
  (hR:∀ r∈R,mj s r) (hA:∀ r∈R,(∀ p∈r.2.2,cT s p=true)∧r.2.2.length≤4) (hR9:R.length≤9) (hrow:∀ W,Fr (b::S.mks.toList) w W→bP W B s (.slice ra R.length rc) R) (hfu:fuel≤99) (hsn:0≤S.snap) (hmo:S.snap+(S.made+100000)≤9223372036854775807) :
  Calls Tryz.prog 66 #[.pointer (some ⟨b,o,none⟩),.slice ra R.length rc,.agg sl.toArray,.int .i64 fuel] w fun e w'=>e=.returned (.tuple #[.int .i64 (cU s R f fuel S fm).1.1,.int .i64 (cU s R f fuel S fm).1.2])∧∃ m,fI b o S.mks.toList (cU s R f fuel S fm).2.1 (cU s R f fuel S fm).2.2 m w w':=by
 have hbl:=lt_of_block hb
 have hsl:sl.length=180:=by have:=hsc.size;simpa using this
 have hgl:∀ g,S.mks=some g→g<w.heap.size:=fun g hg=>by
  rw[hg] at hM
  obtain⟨Z,h1,_⟩:=hM
  exact lt_of_block h1
 have HGL:=af hgl
 obtain⟨G,hG⟩:∃ G,G=S.mks.toList:=⟨_,rfl⟩
 have hGm:∀ g∈G,g<w.heap.size:=fun g hg=>by
  rw[hG] at hg
  cases hm:S.mks with
  |none=>rw[hm] at hg;cases hg
  |some g2=>
   rw[hm] at hg
   simp at hg
   rw[hg]
   exact hgl g2 hm
 have hst:fI b o G S fm S.mks w (w.alloc (.cells sl.toArray 139)):=by
  have h0:fI b o G S fm S.mks w w:=⟨h,hM,⟨Fr.refl _ _,fun _ _=>rfl,fun hk=>⟨_,hk⟩⟩,hne,fun g hg=>.inl (by rw[hG,hg];simp)⟩
  exact h0.grown (ab (ag _ _) _)
 rw[←hG] at hrow ⊢
 have HBV:Hid ((w.alloc (.cells sl.toArray 139)).heap[w.heap.size]?=some (.cells sl.toArray 139 (0,0))):=af (heap_alloc_new w _)
 have HISL:Hid ((Tryz.prog.info? 139).map (·.size)=some sl.length):=af (by rw[hsl];kernel_rfl)
 have HST:=af hst
 have HROW:=af hrow
 have HR:=af hR
 have HA:=af hA
 have HSC:=af hsc
 have HGM:=af hGm
 have HB:=af hb
 have HW:=af hw
 have HFIRST:Hid (∀ (S':aJ) (fm':Nat→Option Int) (m:Option Nat) (W:World),fI b o G S' fm' m w W→Calls Tryz.prog 95 #[.pointer (some ⟨b,o,none⟩),.slice ra R.length rc,.agg sl.toArray] W fun e w'=>e=.returned (.tuple #[.agg (kD (eh s R) (jN s R f S' fm')).toArray,.bool (jN s R f S' fm').isSome])∧W.grownBy w' none):=af (fun S' fm' m W hW=>
  wD b o { S' with mks:=m } f sl s R ra rc B fm' W hW.ses hsc hW.mar hR hR9 (hrow W hW.chg.fr))
 clear h hM hne hsc hw hR hA hrow hgl hG hst hGm hb
 obtain⟨res,hres⟩:∃ res,res=cU s R f fuel S fm:=⟨_,rfl⟩
 rw[←hres]
 have HRES:=af hres
 clear hres
 have hsz0:=hbl
 go_enter Tryz.func66,Tryz.ntmps66
 go_wp2_with fail
 go_loopw [10] (fun t wr=>∃ (k:Nat) (S':aJ) (fm':Nat→Option Int) (m:Option Nat),k≤fuel∧t=.int .i64 k∧fI b o G S' fm' m w wr∧wr.heap[w.heap.size]?=some (.cells sl.toArray 139 (0,0))∧yt S' f∧S'.snap=S.snap∧S'.made≤S.made+400*k∧res=((k+(cU s R f (fuel - k) S' fm').1.1,(cU s R f (fuel - k) S' fm').1.2),(cU s R f (fuel - k) S' fm').2)) (fun t _=>fuel - (intOf t).toNat)
 case atStart=>exact⟨0,S,fm,S.mks,by omega,rfl,HST.out,HBV.out,HW.out,rfl,by omega,by rw[HRES.out];simp⟩
 case round=>
  obtain⟨k,S',fm',m,hk,rfl,hrun,hbv,hwo,hsnap,hmade,hr0⟩:=hrel
  have HRUN:=af hrun
  have HBVR:=af hbv
  have HR0:=af hr0
  have HWO:=af hwo
  have lv:=lt_of_block hbv
  have HRV:Hid (wr.rangeAt w.heap.size 0 sl):=af (aF hbv rfl)
  have HF1:=af (HFIRST.out S' fm' m wr hrun)
  obtain⟨fi,hfi⟩:∃ fi,fi=jN s R f S' fm':=⟨_,rfl⟩
  rw[←hfi] at HF1
  obtain⟨M,hM⟩:∃ M,M=kD (eh s R) fi:=⟨_,rfl⟩
  rw[←hM] at HF1
  have hMl:M.length=24:=by rw[hM];exact lf _ _
  have HIM:Hid ((Tryz.prog.info? 176).map (·.size)=some M.length):=af (by rw[hMl];exact bC)
  have HOM:Hid (M.toArray.all (·.oneCell')=true):=af (all_oneCell_toArray (by rw[hM];exact ph _ _))
  have HFI:=af hfi
  by_cases hlt:k<fuel
  ·obtain⟨n,hn⟩:∃ n,fuel - k=n+1:=⟨fuel - k - 1,by omega⟩
   rw[hn] at HR0
   have HN:Hid (fuel - (k+1)=n):=af (by omega)
   cases hfc:fi with
   |none=>
    subst hfc
    have HRR:Hid (res=((k,1),S',fm')):=af (by
     rw[HR0.out]
     unfold cU
     rw[←HFI.out]
     rfl)
    simp only[Option.isSome_none] at HF1
    clear hrun hbv hr0 hwo hM hfi HR0 hn
    go_wp2_with (first
     |(refine wpList_load_mid rfl 139 (.tmp 6) rfl w.heap.size 0 rfl sl _ HRV.out Tryz.underlying139 rfl HISL.out ?_))
    go_at_call 95
    refine HF1.out.mono ?_
    rintro e w1 ⟨rfl,hg1⟩
    have HRN:=af ((HRUN.out.grown hg1).grown (ab (ag _ _) (.cells M.toArray 176)))
    clear hg1
    go_wp2_with (first
     |(refine az rfl 176 (.tmp 11) (.tmp 27) rfl _ M rfl rfl hMl.symm HIM.out HOM.out ?_))
    go_ret2
    rw[HRR.out]
    exact⟨rfl,m,HRN.out⟩
   |some i=>
    subst hfc
    have hiM:M=aG (eh s R i.rule) i:=by rw[hM];rfl
    have hmem:=uP hfi.symm
    obtain⟨i1,i2,i3⟩:=mH hwo.facts (ix S' f 60) HR.out hmem
    obtain⟨q1,q2⟩:=HA.out _ (List.getElem_mem i1)
    have eg:R.getD i.rule (0,[],[])=R[i.rule]:=by simp[List.getD,List.getElem?_eq_getElem i1]
    have HWK:Hid (∀ W,Fr (b::G) w W→Calls Tryz.prog 96 #[.slice ra R.length rc,.agg M.toArray] W fun e w'=>oY W (fW s i.env R[i.rule].2.2) e w'∧W.grownBy w' none):=af (fun W hW=>by
     rw[hiM]
     exact zq s R ra rc B (eh s R i.rule) i W i1 (HROW.out W hW) q1 (by omega) i3)
    simp only[Option.isSome_some] at HF1
    cases ho:fW s i.env R[i.rule].2.2 with
    |none=>
     have HRR:Hid (res=((k,4),S',fm')):=af (by
      rw[HR0.out]
      unfold cU
      rw[←HFI.out]
      simp only[]
      rw[eg,ho]
      rfl)
     rw[ho] at HWK
     clear hrun hbv hr0 hwo hM hfi HR0 hn hiM hmem
     go_wp2_with (first
      |(refine wpList_load_mid rfl 139 (.tmp 6) rfl w.heap.size 0 rfl sl _ HRV.out Tryz.underlying139 rfl HISL.out ?_))
     go_at_call 95
     refine HF1.out.mono ?_
     rintro e w1 ⟨rfl,hg1⟩
     have HRN:=af ((HRUN.out.grown hg1).grown (ab (ag _ _) (.cells M.toArray 176)))
     have HRM:Hid ((w1.alloc (.cells M.toArray 176)).rangeAt w1.heap.size 0 M):=af (aF (heap_alloc_new w1 _) rfl)
     clear hg1
     go_wp2_with (first
      |(refine az rfl 176 (.tmp 11) (.tmp 27) rfl _ M rfl rfl hMl.symm HIM.out HOM.out ?_)
      |(refine wpList_load_mid rfl 176 (.tmp 11) rfl w1.heap.size 0 rfl M _ HRM.out Tryz.underlying176 rfl HIM.out ?_))
     go_at_call 96
     refine (HWK.out _ HRN.out.chg.fr).mono ?_
     rintro e w2 ⟨hans,hg2⟩
     simp only[oY] at hans
     subst hans
     have HRN2:=af ((HRN.out.grown hg2).grown (ab (ag _ _) (.cells #[.slice none 0 0,.bool false] 187)))
     clear hg2
     go_wp2_with fail
     go_ret2
     rw[HRR.out]
     exact⟨rfl,m,HRN2.out⟩
    |some q=>
     obtain⟨ws,hh⟩:=q
     have hoT:fW s i.env (R[i.rule].2.2.take R[i.rule].2.2.length)=some (ws,hh):=by rw[List.take_length];exact ho
     have hwq:=mK q1 _ (Nat.le_refl _) _ hoT
     have hwn:=kP s i.env R[i.rule].2.2 _ (Nat.le_refl _) _ hoT
     simp only at hwq hwn
     have hpm:=nL ws S'
     have HRRT:Hid (hh=true→res=((k+1,3),puts S' ws,cG fm' (bX i) (some (b8 i.facts)))):=af (fun e=>by
      rw[HR0.out]
      unfold cU
      rw[←HFI.out]
      simp only[]
      rw[eg,ho,e]
      simp)
     have HRRF:Hid (hh=false→res=((k+1+(cU s R f n (puts S' ws) (cG fm' (bX i) (some (b8 i.facts)))).1.1,(cU s R f n (puts S' ws) (cG fm' (bX i) (some (b8 i.facts)))).1.2),(cU s R f n (puts S' ws) (cG fm' (bX i) (some (b8 i.facts)))).2)):=af (fun e=>by
      rw[HR0.out]
      rw[show cU s R f (n+1) S' fm'=(((cU s R f n (puts S' ws) (cG fm' (bX i) (some (b8 i.facts)))).1.1+1,(cU s R f n (puts S' ws) (cG fm' (bX i) (some (b8 i.facts)))).1.2),(cU s R f n (puts S' ws) (cG fm' (bX i) (some (b8 i.facts)))).2) by
       conv=>lhs;unfold cU
       rw[←HFI.out]
       simp only[]
       rw[eg,ho,e]
       simp]
      simp only[Prod.mk.injEq,and_true]
      omega)
     rw[ho] at HWK
     have HWOP:Hid (yt (puts S' ws) f):=af (HWO.out.puts (fun x hx=>(hwq x hx).2))
     have hgne:∀ g,m=some g→w.heap.size≠g∧g<wr.heap.size:=fun g hg=>by
      have hmar:=hrun.mar
      rw[hg] at hmar
      obtain⟨Z,h1,_⟩:=hmar
      refine⟨fun e=>?_,lt_of_block h1⟩
      rw[←e,hbv] at h1
      simp at h1
     have HGNE:=af hgne
     have HFIRE:Hid (∀ (W:World) (ea:Option Addr) (ec BE:Nat),fI b o G S' fm' m w W→W.ownsRow BE 221 3 (.slice ea ws.length ec) ws.length (Dt ws)→b<BE→wr.heap.size≤BE→Calls Tryz.prog 97 #[.pointer (some ⟨b,o,none⟩),.agg M.toArray,.slice ea ws.length ec] W fun e w'=>e=.returned (.tuple #[])∧qz b o { S' with mks:=m } fm' (bX i) (b8 i.facts) ws W w'):=af (fun W ea ec BE hW hrow hB hBE=>by
      obtain⟨cs2,hb2⟩:=hW.chg.blk HB.out
      rw[hiM]
      exact zT (eh s R i.rule) i b o { S' with mks:=m } fm' ws ea ec BE W hb2 (by omega) i2 hW.ses hW.mar hW.ne (fun x hx=>(hwq x hx).1) (by omega) hrow hB (fun g hg=>by have:=(hgne g hg).2;omega) (by simp only;omega) (by simp only;omega))
     have hl9:ws.length≤4:=by omega
     have hbwr:b<wr.heap.size:=by omega
     clear hrun hbv hr0 hwo hM hfi HR0 hn hmem hoT hwq ho hgne hiM
     go_wp2_with (first
      |(refine wpList_load_mid rfl 139 (.tmp 6) rfl w.heap.size 0 rfl sl _ HRV.out Tryz.underlying139 rfl HISL.out ?_))
     go_at_call 95
     refine HF1.out.mono ?_
     rintro e w1 ⟨rfl,hg1⟩
     have HG1:=af hg1
     have HRN:=af ((HRUN.out.grown hg1).grown (ab (ag _ _) (.cells M.toArray 176)))
     have HRM:Hid ((w1.alloc (.cells M.toArray 176)).rangeAt w1.heap.size 0 M):=af (aF (heap_alloc_new w1 _) rfl)
     have hs1:=hg1.size
     clear hg1
     go_wp2_with (first
      |(refine az rfl 176 (.tmp 11) (.tmp 27) rfl _ M rfl rfl hMl.symm HIM.out HOM.out ?_)
      |(refine wpList_load_mid rfl 176 (.tmp 11) rfl w1.heap.size 0 rfl M _ HRM.out Tryz.underlying176 rfl HIM.out ?_))
     go_at_call 96
     refine (HWK.out _ HRN.out.chg.fr).mono ?_
     rintro e w2 ⟨hans,hg2⟩
     simp only[oY] at hans
     obtain⟨ev,rfl,hev⟩:=hans
     obtain⟨ea,em,ec,rfl⟩:=an hev
     have eem:=au hev
     subst eem
     have hs2:w1.heap.size+1≤w2.heap.size:=by
      have:=hg2.size
      simp at this
      exact this
     have HGB:Hid (w2.grownBy (w2.alloc (.cells #[.slice ea ws.length ec,.bool hh] 187)) none):=af (ab (ag _ _) _)
     have HRN2:=af ((HRN.out.grown hg2).grown HGB.out)
     have HEV:=af (aq hev HGB.out (fun g hg=>by cases hg))
     have hbm2:=(hg2.block _ (lt_of_block (heap_alloc_new w1 (.cells M.toArray 176))) (by simp)).trans (heap_alloc_new w1 (.cells M.toArray 176))
     have HRM2:Hid ((w2.alloc (.cells #[.slice ea ws.length ec,.bool hh] 187)).rangeAt w1.heap.size 0 M):=af (aF ((Below.heap_alloc _ _ _ (lt_of_block hbm2)).trans hbm2) rfl)
     have HBO:Hid ((w2.alloc (.cells #[.slice ea ws.length ec,.bool hh] 187)).heap[w2.heap.size]?=some (.cells #[.slice ea ws.length ec,.bool hh] 187 (0,0))):=af (heap_alloc_new w2 _)
     have hbv2:(w2.alloc (.cells #[.slice ea ws.length ec,.bool hh] 187)).heap[w.heap.size]?=some (.cells sl.toArray 139 (0,0)):=by
      have h1:=(HG1.out.block _ lv (by simp)).trans HBVR.out
      have h2:=(Below.heap_alloc w1 (.cells M.toArray 176) _ (lt_of_block h1)).trans h1
      have h3:=(hg2.block _ (lt_of_block h2) (by simp)).trans h2
      exact (Below.heap_alloc _ _ _ (lt_of_block h3)).trans h3
     have HBV2:=af hbv2
     clear hg2 hev hbm2 hbv2 HRN HRM HF1 HWK
     go_wp2_with (first
      |(refine wpList_load_mid rfl 176 (.tmp 11) rfl w1.heap.size 0 rfl M _ HRM2.out Tryz.underlying176 rfl HIM.out ?_))
     go_at_call 97
     refine (HFIRE.out _ ea ec _ HRN2.out HEV.out (by simp;omega) (by simp;omega)).mono ?_
     rintro e w3 ⟨rfl,hfire⟩
     have hbo3:w3.heap[w2.heap.size]?=some (.cells #[.slice ea ws.length ec,.bool hh] 187 (0,0)):=(hfire.block (lt_of_block HBO.out) (by omega) (fun g hg=>by have:=(HGNE.out g hg).2;omega)).trans HBO.out
     have HBV3:Hid (w3.heap[w.heap.size]?=some (.cells sl.toArray 139 (0,0))):=af ((hfire.block (lt_of_block HBV2.out) (by omega) (fun g hg=>(HGNE.out g hg).1)).trans HBV2.out)
     obtain⟨g3,hrun3⟩:=HRN2.out.fire hfire
     have HRUN3:=af hrun3
     have c1:w3.cell? ⟨w2.heap.size,1,none⟩=some (.bool hh):=by rw[cell_of_row _ _ _ _ _ _ hbo3];rfl
     obtain⟨pp,hpp⟩:∃ pp,pp=cG fm' (bX i) (some (b8 i.facts)):=⟨_,rfl⟩
     rw[←hpp] at HRRT HRRF HRUN3
     have hpm1:=hpm.1
     have hpm2:=hpm.2.1
     clear hfire hbo3 hrun3 hpp hpm HFIRE HRM2 HEV HRN2
     cases hh with
     |true=>
      have HRR:=af (HRRT.out rfl)
      clear HRRT HRRF
      go_wp2_with fail
      go_ret2
      rw[HRR.out]
      exact⟨by first|rfl|(simp),_,HRUN3.out⟩
     |false=>
      have HRR:=af (HRRF.out rfl)
      clear HRRT HRRF
      go_wp2_with fail
      go_roundw
      case rel=>exact⟨k+1,puts S' ws,pp,some g3,by omega,by go_num,HRUN3.out,HBV3.out,HWOP.out,by rw[hpm2];exact hsnap,by rw[hpm1];omega,by rw[HN.out];exact HRR.out⟩
      case measure=>simp[intOf];omega
  ·have hkf:k=fuel:=by omega
   subst hkf
   have HRR:Hid (res=((k,if fi.isSome then 2 else 1),S',fm')):=af (by
    rw[HR0.out]
    simp[cU,←HFI.out])
   obtain⟨fo,hfo⟩:∃ fo,fo=fi.isSome:=⟨_,rfl⟩
   rw[←hfo] at HF1 HRR
   clear hrun hbv hr0 hwo hM hfi HR0 hfo
   go_wp2_with (first
    |(refine wpList_load_mid rfl 139 (.tmp 6) rfl w.heap.size 0 rfl sl _ HRV.out Tryz.underlying139 rfl HISL.out ?_))
   go_at_call 95
   refine HF1.out.mono ?_
   rintro e w1 ⟨rfl,hg1⟩
   have HRN:=af ((HRUN.out.grown hg1).grown (ab (ag _ _) (.cells M.toArray 176)))
   clear hg1 HF1
   cases fo with
   |true=>
    go_wp2_with (first
     |(refine az rfl 176 (.tmp 15) (.tmp 55) rfl _ M rfl rfl hMl.symm HIM.out HOM.out ?_))
    go_ret2
    rw[HRR.out]
    exact⟨rfl,m,HRN.out⟩
   |false=>
    go_wp2_with (first
     |(refine az rfl 176 (.tmp 15) (.tmp 55) rfl _ M rfl rfl hMl.symm HIM.out HOM.out ?_))
    go_ret2
    rw[HRR.out]
    exact⟨rfl,m,HRN.out⟩
end Go.Proofs.YthlhbjnkohinmaaGreat
