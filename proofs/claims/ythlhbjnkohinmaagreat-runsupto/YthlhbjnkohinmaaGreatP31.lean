import Derived.Test.YthlhbjnkohinmaaGreatP30
import Derived.Test.YthlhbjnkohinmaaGreatP25
namespace Go.Proofs.YthlhbjnkohinmaaGreat
set_option maxRecDepth 100000
set_option maxHeartbeats 8000000
open Go.RowKit
theorem cI.grown {w w':World} {b o:Nat} {S:aI} (h:cI w b o S) (hW:w.grownBy w' none):cI w' b o S:=
 ⟨am hW h.num,am hW h.snap,am hW h.cnt,fun c hc=>am hW (h.made c hc),fun c hc=>am hW (h.filled c hc),fun c hc=>am hW (h.val c hc),fun c hc=>am hW (h.tm c hc),am hW h.mks,h.ok⟩
def puts (S:aI) (ws:List (Nat×Option Int)):aI:=ws.foldl (fun S q=>S.put q.1 q.2) S
theorem AU (S:aI) (ws:List (Nat×Option Int)) (j:Nat) (hj:j<ws.length):puts S (ws.take (j+1))=(puts S (ws.take j)).put ws[j].1 ws[j].2:=by
 unfold puts
 rw[List.take_succ_eq_append_getElem hj,List.foldl_append]
 rfl
theorem nY (ws:List (Nat×Option Int)):∀ S:aI,(puts S ws).made=S.made+ws.length∧(puts S ws).snap=S.snap∧(puts S ws).mks=S.mks:=by
 induction ws with
 |nil=>intro S;simp[puts]
 |cons q ws ih=>
  intro S
  obtain⟨h1,h2,h3⟩:=ih (S.put q.1 q.2)
  unfold puts at*
  rw[List.foldl_cons]
  refine⟨?_,h2,h3⟩
  rw[h1]
  simp[aI.put]
  omega
theorem DW.same {b o:Nat} {G:List Nat} {w w':World} (h:DW b o G w w') {w2:World} (hc:kz w' w2 b o 244):DW b o G w w2:=
 ⟨h.fr.trans (hc.fr.mono (fun k hk=>.inl (by simp at hk;simp[hk]))),fun i hi=>(hc.cell i hi).trans (h.cell i hi),fun hb=>by
  obtain⟨cs,h1⟩:=h.blk hb
  exact hc.blk h1⟩
theorem DW.before {b o:Nat} {G:List Nat} {w W w':World} (h:DW b o G W w') (hW:Fr [] w W) (hb:b<w.heap.size):DW b o G w w':=by
 have e:=hW.block b hb (by simp)
 refine⟨(hW.mono (fun k hk=>by cases hk)).trans h.fr,fun i hi=>(h.cell i hi).trans (by simp only[World.cell?,e]),fun hk=>h.blk (e.trans hk)⟩
def qu (b o:Nat) (S:aI) (fm:Nat→Option Int) (p:Nat) (t:Int) (ws:List (Nat×Option Int)) (w w':World):Prop:=∃ g,cI w' b o (puts { S with mks:=some g } ws)∧jC (some g) (cH fm p (some t)) w'∧DW b o S.mks.toList w w'∧g≠b∧(S.mks=some g∨w.heap.size≤g)
theorem Ao (wt:Int) (i:In) (b o:Nat) (S:aI) (fm:Nat→Option Int) (ws:List (Nat×Option Int)) (ea:Option Addr) (ec BE:Nat) (w:World) {cs:Array Value} {ty:TypeId} (hb:w.heap[b]?=some (.cells cs ty (0,0))) (hr:i.rule<9) (hl:i.facts.length≤3) (h:cI w b o S) (hM:jC S.mks fm w) (hne:S.mks≠some b)
  (hws:∀ q∈ws,q.1<60) (hwl:ws.length≤400) (hrow:w.ownsRow BE 221 3 (.slice ea ws.length ec) ws.length (B3 ws)) (hBE:b<BE) (hGE:∀ g,S.mks=some g→g<BE) (hsn:0≤S.snap) (hmo:S.snap+(S.made+401)≤9223372036854775807) :
  Calls Tryz.prog 97 #[.pointer (some ⟨b,o,none⟩),.agg (aF wt i).toArray,.slice ea ws.length ec] w fun e w'=>e=.returned (.tuple #[])∧qu b o S fm (bW i) (b9 i.facts) ws w w':=by
 have hbl:=lt_of_block hb
 have HADD:Hid (∀ W,w.grownBy W none→Calls Tryz.prog 119 #[.pointer (some ⟨b,o+243,none⟩),.agg (aF wt i).toArray] W fun e w'=>e=.returned (.tuple #[])∧Fk b o S fm (bW i) (b9 i.facts) W w'):=af (fun W hW=>AM wt i b o S fm W ((hW.block b hbl (by simp)).trans hb) hr hl (h.grown hW) (hM.grown hW) hne)
 obtain⟨L,hL⟩:∃ L,L=aF wt i:=⟨_,rfl⟩
 have hLl:L.length=24:=by rw[hL];rfl
 rw[←hL] at HADD ⊢
 have HIL:Hid ((Tryz.prog.info? 176).map (·.size)=some L.length):=af (by rw[hLl];exact bD)
 have HBN:Hid ((w.alloc (.cells L.toArray 176)).heap[w.heap.size]?=some (.cells L.toArray 176 (0,0))):=af (heap_alloc_new w _)
 have HRL:Hid ((w.alloc (.cells L.toArray 176)).rangeAt w.heap.size 0 L):=af (aE HBN.out rfl)
 have HG0:Hid (w.grownBy (w.alloc (.cells L.toArray 176)) none):=af (ab (ag _ _) _)
 have HROW:=af hrow
 have HGE:=af hGE
 have HB:=af hb
 have HGL:Hid (∀ g,S.mks=some g→g<w.heap.size):=af (fun g hg=>by
  rw[hg] at hM
  obtain⟨Z,h1,_⟩:=hM
  exact lt_of_block h1)
 have HWS:=af hws
 obtain⟨pp,hpp⟩:∃ pp,pp=bW i:=⟨_,rfl⟩
 obtain⟨lt,hlt⟩:∃ lt,lt=b9 i.facts:=⟨_,rfl⟩
 rw[←hpp,←hlt] at HADD ⊢
 clear hL hrow hGE hM h hb hpp hlt hws
 go_enter Tryz.func97,Tryz.ntmps97
 go_wp2_with fail
 refine wp_region_held_drew (S:=fun W=>W.rangeAt w.heap.size 0 L) (by kernel_rfl) HRL.out (fun hHeld=>?_)
 refine wpAnyH_take (i:=0) (v:=.pointer (some ⟨b,o,none⟩)) rfl (by kernel_rfl) (by kernel_rfl) (by kernel_rfl) (fun _ _ _ h=>h) (Or.inl ⟨by rfl,?_⟩) hHeld ?_
 ·intro W hSw
  go_simp
 refine wpAnyH_take (i:=1) (v:=.pointer (some ⟨b,o,none⟩)) rfl (by kernel_rfl) (by kernel_rfl) (by kernel_rfl) (fun _ _ _ h=>h) (Or.inl ⟨by rfl,?_⟩) hHeld ?_
 ·intro W hSw
  go_simp
 refine wpAnyH_take (i:=2) (v:=.pointer (some ⟨b,o+243,none⟩)) rfl (by kernel_rfl) (by kernel_rfl) (by kernel_rfl) (fun _ _ _ h=>h) (Or.inl ⟨by rfl,?_⟩) hHeld ?_
 ·intro W hSw
  go_simp
 refine wpAnyH_take (i:=3) (v:=.agg L.toArray) rfl (by kernel_rfl) (by kernel_rfl) (by kernel_rfl) (fun _ _ _ h=>h) (yieldsIf_load_mid (by rfl) 176 _ rfl w.heap.size 0 rfl L _ (fun W hSw=>hSw) Tryz.underlying176 rfl HIL.out) hHeld ?_
 refine wpAnyH_ready (rs:=[4]) (by kernel_rfl) (by simp) ?_
 refine AllReadyH.cons (o:=_) rfl (fun K hK=>?_) AllReadyH.nil
 go_simp
 go_at_call 119
 refine (HADD.out _ (al HG0.out 1)).mono ?_
 rintro e w1 ⟨rfl,hadd⟩
 obtain⟨g,hS1,hM1,hF1,hgb,hgo⟩:=hadd
 have hr1:w1.rangeAt w.heap.size 0 L:=aE ((hF1.fr.block w.heap.size (lt_of_block HBN.out) (fun hm=>by
  rcases List.mem_cons.mp hm with e|e
  ·omega
  ·cases hk:S.mks with
   |none=>rw[hk] at e;cases e
   |some g2=>
    rw[hk] at e
    simp at e
    have h1:=HGE.out g2 hk
    have h2:=HGL.out g2 hk
    omega)).trans HBN.out) rfl
 go_wp2_with fail
 refine hK.out _ _ hr1 (fun hHeld2=>?_)
 clear hK K
 refine wpAnyH_done (by kernel_rfl) ?_ _
 have HF1:Hid (DW b o S.mks.toList w w1):=af (hF1.before (((az w _)).drewN 1) hbl)
 have HS1:=af hS1
 have HM1:=af hM1
 have HGO:Hid (S.mks=some g∨w.heap.size≤g):=af (by
  rcases hgo with h|h
  ·exact .inl h
  ·refine .inr (Nat.le_trans ?_ h)
   have:=(az w (.cells L.toArray 176)).size
   exact this)
 obtain⟨cs1,hb1⟩:=HF1.out.blk HB.out
 have HB1:=af hb1
 have HRW:Hid (∀ wr,kz w1 wr b o 244→wr.ownsRow BE 221 3 (.slice ea ws.length ec) ws.length (B3 ws)):=af (fun wr hc=>Fs HROW.out (HF1.out.same hc).fr (fun k hk=>by
  rcases List.mem_cons.mp hk with e|e
  ·omega
  ·cases hx:S.mks with
   |none=>rw[hx] at e;cases e
   |some g2=>
    rw[hx] at e
    simp at e
    have:=HGE.out g2 hx
    omega))
 obtain⟨S1,hS1e⟩:∃ S1:aI,S1={ S with mks:=some g }:=⟨_,rfl⟩
 have HS1E:=af hS1e
 rw[←hS1e] at HS1
 have HMORE:Hid (∀ j,j≤400→(puts S1 (ws.take j)).more):=af (fun j hj=>by
  obtain⟨h1,h2,_⟩:=nY (ws.take j) S1
  unfold aI.more
  rw[h1,h2,hS1e]
  have h3:=List.length_take_le j ws
  simp only
  omega)
 clear hF1 hS1 hM1 hgo hHeld hHeld2 hr1 HADD hb1 hS1e HRL HBN hmo hsn
 go_wp2_with fail
 go_loopw [15] (fun t wr=>∃ j:Nat,j≤ws.length∧t=.int .i64 j∧cI wr b o (puts S1 (ws.take j))∧kz w1 wr b o 244) (fun t _=>ws.length - (intOf t).toNat)
 case atStart=>exact⟨0,by omega,rfl,HS1.out,kz.refl _ _ _ _⟩
 case round=>
  obtain⟨j,hj,rfl,hses,hch⟩:=hrel
  have HSES:=af hses
  have HCH:=af hch
  by_cases hlt:j<ws.length
  ·obtain⟨ge,rfl,_,_,hgel,hecell⟩:=aC (HRW.out wr hch) (by omega)
   obtain⟨E,hE⟩:∃ E,E=D3 ws[j]:=⟨_,rfl⟩
   have hEl:E.length=3:=by rw[hE];rfl
   have HRG:Hid (wr.rangeAt ge (j*3) E):=af (by rw[hE];exact eU (f:=D3) (fun _=>rfl) hecell hlt)
   have HIE:Hid ((Tryz.prog.info? 221).map (·.size)=some E.length):=af (by rw[hEl];kernel_rfl)
   have HOEA:Hid (E.toArray.all (·.oneCell')=true):=af (all_oneCell_toArray (by rw[hE];exact yl _))
   have hbn:(wr.alloc (.cells E.toArray 221)).heap[wr.heap.size]?=some (.cells E.toArray 221 (0,0)):=heap_alloc_new wr _
   obtain⟨c,hc⟩:∃ c,c=ws[j].1:=⟨_,rfl⟩
   obtain⟨v,hv⟩:∃ v,v=ws[j].2:=⟨_,rfl⟩
   have k0:(wr.alloc (.cells E.toArray 221)).cell? ⟨wr.heap.size,0,none⟩=some (.int .i64 c):=be hbn (by rw[hE,hc];rfl)
   have k1:(wr.alloc (.cells E.toArray 221)).cell? ⟨wr.heap.size,1,none⟩=some (.bool v.isSome):=be hbn (by rw[hE,hv];rfl)
   have k2:(wr.alloc (.cells E.toArray 221)).cell? ⟨wr.heap.size,2,none⟩=some (.int .i64 (v.getD 0)):=be hbn (by rw[hE,hv];rfl)
   obtain⟨cs2,hb2⟩:=hch.blk HB1.out
   have hbl2:=lt_of_block hb2
   have hc60:c<60:=by rw[hc];exact HWS.out _ (List.getElem_mem hlt)
   have HREC:=af (nV b o c v (puts S1 (ws.take j)) (wr.alloc (.cells E.toArray 221)) hc60 ((Below.heap_alloc _ _ _ hbl2).trans hb2) (hses.grown (ab (ag _ _) _)) (HMORE.out j (by omega)))
   have HPT:=af (AU S1 ws j hlt)
   rw[←hc,←hv] at HPT
   obtain⟨vs,hvs⟩:∃ vs,vs=v.isSome:=⟨_,rfl⟩
   obtain⟨vg,hvg⟩:∃ vg,vg=v.getD 0:=⟨_,rfl⟩
   rw[←hvs] at k1 HREC
   rw[←hvg] at k2 HREC
   have hne2:ge≠wr.heap.size:=by omega
   have HAL:Hid (kz w1 (wr.alloc (.cells E.toArray 221)) b o 244):=af (hch.alloc (lt_of_block HB1.out) _)
   clear hE hc hv hvs hvg hbn hb2 hses hch hecell
   go_wp2_with (first
    |(refine wpList_load_mid rfl 221 (.tmp 17) rfl ge (j*3) rfl E _ HRG.out Tryz.underlying221 rfl HIE.out ?_)
    |(refine ay rfl 221 (.tmp 7) (.tmp 18) rfl _ E rfl rfl hEl.symm HIE.out HOEA.out ?_))
   go_at_call 81
   refine HREC.out.mono ?_
   rintro e w2 ⟨rfl,hput⟩
   have HS2:Hid (cI w2 b o (puts S1 (ws.take (j+1)))):=af (by rw[HPT.out];exact hput.ses)
   have HC2:Hid (kz w1 w2 b o 244):=af (HAL.out.trans hput.chg)
   clear hput HREC
   go_wp2_with fail
   go_roundw
   case rel=>exact⟨j+1,by omega,by go_num,HS2.out,HC2.out⟩
   case measure=>simp[intOf];omega
  ·have hjl:j=ws.length:=by omega
   subst hjl
   rw[List.take_length] at HSES
   have HMF:Hid (jC (some g) (cH fm pp (some lt)) wr):=af (by
    obtain⟨Z,h1,h2⟩:=HM1.out
    exact⟨Z,(hch.fr.block g (lt_of_block h1) (by simpa using hgb)).trans h1,h2⟩)
   clear hses hch
   go_wp2_with fail
   go_returns
   refine⟨rfl,g,?_,HMF.out,HF1.out.same HCH.out,hgb,HGO.out⟩
   rw[←HS1E.out]
   exact HSES.out
structure yC (S:aI) (f:Nat→Int×Option Int):Prop where
 wr:∀ c v,S.wr c=some (some v)→0≤v∧v≤9
 his:∀ c v,(f c).2=some v→0≤v∧v≤9
theorem yC.facts {S:aI} {f:Nat→Int×Option Int} (h:yC S f):rp (di S f 60):=by
 intro q hq
 unfold di at hq
 obtain⟨c,hc,hm⟩:=List.mem_filterMap.mp hq
 cases hs:cM S f c with
 |none=>rw[hs] at hm;cases hm
 |some p=>
  rw[hs] at hm
  simp only[Option.map_some,Option.some.injEq] at hm
  rw[←hm]
  refine⟨by simpa using hc,?_⟩
  unfold cM at hs
  cases hw:S.wr c with
  |none=>
   rw[hw] at hs
   simp only at hs
   cases hf:(f c).2 with
   |none=>rw[hf] at hs;cases hs
   |some v=>
    rw[hf] at hs
    simp only[Option.map_some,Option.some.injEq] at hs
    rw[←hs]
    exact h.his c v hf
  |some u=>
   rw[hw] at hs
   simp only at hs
   cases u with
   |none=>cases hs
   |some v=>
    simp only[Option.map_some,Option.some.injEq] at hs
    rw[←hs]
    exact h.wr c v hw
theorem EF {s:ByteArray} {e:ff} {p:Nat} {x:Nat×Option Int} (hok:cP s p=true) (h46:bt s p≠46) (h:qQ s e p=some x):x.1<60∧∀ v,x.2=some v→0≤v∧v≤9:=by
 unfold cP at hok
 unfold qQ at h
 by_cases h43:bt s p=43
 ·rw[if_pos h43] at hok h
  unfold fI at hok
  simp only[Bool.and_eq_true] at hok
  have hc:97≤bt s (p+1)∧bt s (p+1)≤102:=by
   have:=hok.1.1
   simp[aQ] at this
   exact this
  split at h
  ·rename_i hd
   cases h
   refine⟨by simp only;omega,fun v hv=>?_⟩
   simp only[Option.some.injEq] at hv
   omega
  ·cases h
 ·rw[if_neg h43] at hok h
  by_cases h45:bt s p=45
  ·rw[if_pos h45] at hok
   unfold gk at hok
   simp only[Bool.and_eq_true] at hok
   have hc:97≤bt s (p+1)∧bt s (p+1)≤102:=by
    have:=hok.1
    simp[aQ] at this
    exact this
   split at h
   ·cases h
    refine⟨by simp only;omega,fun v hv=>by cases hv⟩
   ·cases h
  ·rw[if_neg h45] at hok
   simp at hok
   exact absurd hok h46
theorem mV {s:ByteArray} {e:ff} {K:List Nat} (hK:∀ p∈K,cP s p=true):∀ j,j≤K.length→∀ q,fZ s e (K.take j)=some q→∀ x∈q.1,x.1<60∧∀ v,x.2=some v→0≤v∧v≤9
 |0,_,q,h=>by
  have:q=([],false):=by simpa [fZ] using h.symm
  rw[this]
  intro x hx
  cases hx
 |j+1,hj,q,h=>by
  have hlt:j<K.length:=by omega
  rw[oe s e K j hlt] at h
  cases ho:fZ s e (K.take j) with
  |none=>rw[ho] at h;cases h
  |some r=>
   have ih:=mV hK j (by omega) r ho
   rw[ho] at h
   simp only[Option.bind_some] at h
   by_cases h46:bt s K[j]=46
   ·rw[if_pos h46] at h
    cases h
    exact ih
   ·rw[if_neg h46] at h
    cases hx:qQ s e K[j] with
    |none=>rw[hx] at h;cases h
    |some x=>
     rw[hx] at h
     cases h
     intro y hy
     rcases List.mem_append.mp hy with hy|hy
     ·exact ih y hy
     ·simp at hy
      rw[hy]
      exact EF (hK _ (List.getElem_mem hlt)) h46 hx
theorem yC.puts {f:Nat→Int×Option Int} {ws:List (Nat×Option Int)} (hw:∀ x∈ws,∀ v,x.2=some v→0≤v∧v≤9):∀ {S:aI},yC S f→yC (puts S ws) f:=by
 induction ws with
 |nil=>intro S h;exact h
 |cons q ws ih=>
  intro S h
  refine ih (fun x hx=>hw x (by simp[hx])) ⟨fun c v hv=>?_,h.his⟩
  have hv':cH S.wr q.1 (some q.2) c=some (some v):=hv
  unfold cH at hv'
  split at hv'
  ·simp only[Option.some.injEq] at hv'
   exact hw q (by simp) v hv'
  ·exact h.wr c v hv'
def jF (s:ByteArray) (R:List ax) (f:Nat→Int×Option Int) (S:aI) (fm:Nat→Option Int):Option In:=gA (eh s R) (jv s (di S f 60) R (ww fm) R.length)
theorem v8 {s:ByteArray} {R:List ax} {f:Nat→Int×Option Int} {S:aI} {fm:Nat→Option Int} {i:In} (h:jF s R f S fm=some i):i∈bz 0 s (di S f 60) R R.length:=by
 unfold jF gA at h
 have h1:=List.mem_of_mem_head? h
 exact (List.mem_filter.mp (lz.mp h1)).1
theorem mU {s:ByteArray} {F:List au} {R:List ax} (hF:rp F) (hFl:F.length≤60) (hR:∀ r∈R,lV s r) {i:In} (h:i∈bz 0 s F R R.length):i.rule<R.length∧i.facts.length≤3∧∀ n v,i.env n=some v→0≤v∧v≤9:=by
 unfold bz at h
 obtain⟨k,hk,hm⟩:=List.mem_flatMap.mp h
 have hk':k<R.length:=by simpa using hk
 have e:R.getD k (0,[],[])=R[k]:=by simp[List.getD,List.getElem?_eq_getElem hk']
 rw[e] at hm
 obtain⟨h1,h2⟩:=iE hFl k (hR _ (List.getElem_mem hk')) i hm
 exact⟨by omega,h1,(pB hF k _ i hm).env⟩
def cU (s:ByteArray) (R:List ax) (f:Nat→Int×Option Int):Nat→aI→(Nat→Option Int)→(Nat×Int)×aI×(Nat→Option Int)
 |0,S,fm=>((0,if (jF s R f S fm).isSome then 2 else 1),S,fm)
 |n+1,S,fm=>match jF s R f S fm with
  |none=>((0,1),S,fm)
  |some i=>match fZ s i.env (R.getD i.rule (0,[],[])).2.2 with
   |none=>((0,4),S,fm)
   |some q=>if q.2 then ((1,3),puts S q.1,cH fm (bW i) (some (b9 i.facts))) else
    (((cU s R f n (puts S q.1) (cH fm (bW i) (some (b9 i.facts)))).1.1+1,(cU s R f n (puts S q.1) (cH fm (bW i) (some (b9 i.facts)))).1.2),(cU s R f n (puts S q.1) (cH fm (bW i) (some (b9 i.facts)))).2)
def AG (s:ByteArray) (L:List Nat):List Int:=L.filterMap fun p=>if bt s p=33 then none else if aQ (bt s p) then some (bt s p - 97) else none
theorem Be (s:ByteArray) (L:List Nat) (p:Nat):AG s (L++[p])=AG s L++(if bt s p=33 then [] else if aQ (bt s p) then [bt s p - 97] else []):=by
 unfold AG
 rw[List.filterMap_append]
 congr 1
 simp only[List.filterMap_cons,List.filterMap_nil]
 by_cases h1:bt s p=33
 ·rw[if_pos h1,if_pos h1]
 ·rw[if_neg h1,if_neg h1]
  by_cases h2:aQ (bt s p)=true
  ·rw[if_pos h2,if_pos h2]
  ·rw[if_neg h2,if_neg h2]
theorem qJ {α:Type} {P:List α→Prop} (h0:P []) (h1:∀ l a,P l→P (l++[a])) (l:List α):P l:=by
 have:∀ m:List α,P m.reverse:=by
  intro m
  induction m with
  |nil=>exact h0
  |cons a m ih=>
   rw[List.reverse_cons]
   exact h1 _ _ ih
 have:=this l.reverse
 rwa [List.reverse_reverse] at this
def lF (l:List au):List Int:=l.map fun q=>(q.1:Int) / 10
theorem Ed {e e':ff} {c t1 t2:Int} {q:au} (h:fU e c t1 t2 q=some e'):(q.1:Int) / 10=c - 97:=by
 unfold fU at h
 split at h
 ·rename_i hc;exact hc.symm
 ·cases h
theorem pL {z:Int} {s:ByteArray} {F:List au} {r:Nat}:∀ (L:List Nat) (L0:List Nat) (l:List In),(∀ i∈l,i.rule=r∧lF i.facts=AG s L0)→∀ i∈L.foldl (kI z s F) l,i.rule=r∧lF i.facts=AG s (L0++L)
 |[],L0,l,h,i,hi=>by
  rw[List.append_nil]
  exact h i hi
 |p::L,L0,l,h,i,hi=>by
  rw[List.foldl_cons] at hi
  have e:L0++p::L=(L0++[p])++L:=by simp
  rw[e]
  refine pL L (L0++[p]) _ (fun j hj=>?_) i hi
  rw[Be]
  unfold kI at hj
  by_cases h33:bt s p=33
  ·rw[if_pos h33] at hj ⊢
   rw[List.append_nil]
   exact h j (List.mem_filter.mp hj).1
  ·rw[if_neg h33] at hj ⊢
   by_cases hc:aQ (bt s p)=true
   ·rw[if_pos hc] at hj ⊢
    obtain⟨i0,hi0,hm⟩:=List.mem_flatMap.mp hj
    unfold iB at hm
    obtain⟨q,_,hq⟩:=List.mem_filterMap.mp hm
    obtain⟨e',he,rfl⟩:=Option.map_eq_some_iff.mp hq
    obtain⟨h1,h2⟩:=h i0 hi0
    refine⟨h1,?_⟩
    show lF (i0.facts++[q])=_
    unfold lF at h2 ⊢
    rw[List.map_append,h2]
    simp only[List.map_cons,List.map_nil]
    rw[Ed he]
   ·rw[if_neg hc] at hj ⊢
    rw[List.append_nil]
    exact h j (List.mem_filter.mp hj).1
def qS (s:ByteArray) (R:List ax) (i:In):Prop:=i.rule<R.length∧i.facts.length≤3∧lF i.facts=AG s (R.getD i.rule (0,[],[])).2.1
theorem xz {s:ByteArray} {F:List au} {R:List ax} (hF:rp F) (hFl:F.length≤60) (hR:∀ r∈R,lV s r) {i:In} (h:i∈bz 0 s F R R.length):qS s R i:=by
 obtain⟨h1,h2,_⟩:=mU hF hFl hR h
 unfold bz at h
 obtain⟨k,hk,hm⟩:=List.mem_flatMap.mp h
 unfold dz at hm
 obtain⟨e1,e2⟩:=pL (R.getD k (0,[],[])).2.1 [] [In.start k] (fun j hj=>by rw[List.mem_singleton] at hj;rw[hj];exact⟨rfl,rfl⟩) i hm
 refine⟨h1,h2,?_⟩
 have e3:i.rule=k:=e1
 rw[e3]
 simpa using e2
theorem Cb {l m:List au} (hc:lF l=lF m) (hd:∀ k,k<l.length→DV l k=DV m k):l.map (·.1)=m.map (·.1):=by
 have hl:l.length=m.length:=by
  have:=congrArg List.length hc
  simpa [lF] using this
 refine List.ext_getElem (by simpa using hl) (fun k h1 h2=>?_)
 have k1:k<l.length:=by simpa using h1
 have k2:k<m.length:=by simpa using h2
 have a:(lF l)[k]'(by simpa [lF] using k1)=(lF m)[k]'(by simpa [lF] using k2):=by simp only[hc]
 have b:=hd k k1
 unfold lF at a
 unfold DV wi at b
 simp only[List.getElem_map,List.getD_eq_getElem?_getD,List.getElem?_eq_getElem k1,List.getElem?_eq_getElem k2,Option.getD_some] at a b ⊢
 omega
theorem or {s:ByteArray} {R:List ax} {i j:In} (hi:qS s R i) (hj:qS s R j) (h:bW i=bW j):i.rule=j.rule∧i.facts.map (·.1)=j.facts.map (·.1):=by
 have b1:=pJ (mn i.facts) i.facts.length hi.2.1
 have b2:=pJ (mn j.facts) j.facts.length hj.2.1
 unfold bW kF at h
 have hr:i.rule=j.rule:=by omega
 have hp:rU (DV i.facts) i.facts.length=rU (DV j.facts) j.facts.length:=by omega
 have hc:lF i.facts=lF j.facts:=by rw[hi.2.2,hj.2.2,hr]
 have hl:i.facts.length=j.facts.length:=by
  have:=congrArg List.length hc
  simpa [lF] using this
 refine⟨hr,Cb hc ?_⟩
 have h3:=hi.2.1
 rw[←hl] at hp
 have d1:=mn i.facts
 have d2:=mn j.facts
 generalize i.facts.length=n at hp h3
 intro k hk
 match n,h3 with
 |0,_=>omega
 |1,_=>
  simp only[rU] at hp
  have:k=0:=by omega
  subst this
  omega
 |2,_=>
  simp only[rU] at hp
  have a0:=d1 0;have a1:=d1 1;have c0:=d2 0;have c1:=d2 1
  have:k=0∨k=1:=by omega
  rcases this with e|e <;> subst e <;> omega
 |3,_=>
  simp only[rU] at hp
  have a0:=d1 0;have a1:=d1 1;have a2:=d1 2;have c0:=d2 0;have c1:=d2 1;have c2:=d2 2
  have:k=0∨k=1∨k=2:=by omega
  rcases this with e|e|e <;> subst e <;> omega
theorem CE {l:List au}:∀ {q:au},q∈l→q.2.2≤b9 l:=by
 suffices h:∀ (l:List au) (m:Int),m≤l.foldl (fun m q=>if q.2.2>m then q.2.2 else m) m∧∀ q∈l,q.2.2≤l.foldl (fun m q=>if q.2.2>m then q.2.2 else m) m from fun {q} hq=>(h l 0).2 q hq
 intro l
 induction l with
 |nil=>intro m;exact⟨Int.le_refl m,fun q hq=>by cases hq⟩
 |cons p l ih=>
  intro m
  rw[List.foldl_cons]
  obtain⟨i1,i2⟩:=ih (if p.2.2>m then p.2.2 else m)
  have:m≤(if p.2.2>m then p.2.2 else m)∧p.2.2≤(if p.2.2>m then p.2.2 else m):=by split <;> omega
  refine⟨by omega,fun q hq=>?_⟩
  rcases List.mem_cons.mp hq with e|hq
  ·rw[e];omega
  ·exact i2 q hq
theorem ED {l:List au} {t:Int} (h0:0≤t) (h:∀ q∈l,q.2.2≤t):b9 l≤t:=by
 suffices g:∀ (l:List au) (m:Int),m≤t→(∀ q∈l,q.2.2≤t)→l.foldl (fun m q=>if q.2.2>m then q.2.2 else m) m≤t from g l 0 h0 h
 intro l
 induction l with
 |nil=>intro m hm _;exact hm
 |cons p l ih=>
  intro m hm hq
  rw[List.foldl_cons]
  refine ih _ ?_ (fun q h=>hq q (by simp[h]))
  have:=hq p (by simp)
  split <;> omega
def tp (Rs:List In):Nat→Option Int:=Rs.foldl (fun m i=>cH m (bW i) (some (b9 i.facts))) (fun _=>none)
theorem nU (Rs:List In) (i:In):tp (Rs++[i])=cH (tp Rs) (bW i) (some (b9 i.facts)):=by simp[tp]
theorem rK:∀ {Rs:List In} {p:Nat} {t:Int},tp Rs p=some t→∃ A r B,Rs=A++r::B∧bW r=p∧b9 r.facts=t∧∀ x∈B,bW x≠p:=by
 intro Rs
 induction Rs using qJ with
 |h0=>intro p t h;cases h
 |h1 Rs i ih=>
  intro p t h
  rw[nU] at h
  by_cases e:p=bW i
  ·rw[e,aW] at h
   exact⟨Rs,i,[],rfl,e.symm,by simpa using h,fun x hx=>by cases hx⟩
  ·rw[bE _ _ _ e] at h
   obtain⟨A,r,B,e1,e2,e3,e4⟩:=ih h
   refine⟨A,r,B++[i],by rw[e1];simp,e2,e3,fun x hx=>?_⟩
   rcases List.mem_append.mp hx with hx|hx
   ·exact e4 x hx
   ·rw[List.mem_singleton] at hx
    rw[hx]
    exact fun c=>e c.symm
theorem AZ:∀ {Rs:List In} {p:Nat},tp Rs p=none→∀ r∈Rs,bW r≠p:=by
 intro Rs
 induction Rs using qJ with
 |h0=>intro p _ r hr;cases hr
 |h1 Rs i ih=>
  intro p h r hr
  rw[nU] at h
  by_cases e:p=bW i
  ·rw[e,aW] at h;cases h
  ·rw[bE _ _ _ e] at h
   rcases List.mem_append.mp hr with hr|hr
   ·exact ih h r hr
   ·rw[List.mem_singleton] at hr
    rw[hr]
    exact fun c=>e c.symm
structure my (P:aI) (f:Nat→Int×Option Int):Prop where
 snap:0≤P.snap
 made:0≤P.made
 wr:∀ c v,P.wr c=some v→P.snap<P.tm c∧P.tm c≤P.snap+P.made
 his:∀ c v,(f c).2=some v→0<(f c).1∧(f c).1≤P.snap
structure iT (s:ByteArray) (R:List ax) (P:aI) (f:Nat→Int×Option Int) (Rs:List In):Prop where
 shape:∀ r∈Rs,qS s R r
 facts:∀ r∈Rs,DK r.facts
 now:∀ r∈Rs,∀ q∈r.facts,cM P f q.1=some q.2∨(∃ v,P.wr q.1=some v)∧b9 r.facts<P.tm q.1
 clock:∀ r∈Rs,b9 r.facts≤P.snap+P.made
 mono:Rs.Pairwise fun r r'=>bW r=bW r'→b9 r.facts≤b9 r'.facts
theorem yP {P:aI} {f:Nat→Int×Option Int} {q:au} (h:q∈di P f 60):q.1<60∧cM P f q.1=some q.2:=by
 unfold di at h
 obtain⟨c,hc,hm⟩:=List.mem_filterMap.mp h
 cases hs:cM P f c with
 |none=>rw[hs] at hm;cases hm
 |some p=>
  rw[hs] at hm
  simp only[Option.map_some,Option.some.injEq] at hm
  rw[←hm]
  exact⟨by simpa using hc,hs⟩
theorem oh {P:aI} {f:Nat→Int×Option Int} (ht:my P f) {c:Nat} {p:Int×Int} (h:cM P f c=some p):0<p.2∧p.2≤P.snap+P.made∧∀ v,P.wr c=some v→p.2=P.tm c:=by
 have h1:=ht.snap
 have h2:=ht.made
 unfold cM at h
 cases hw:P.wr c with
 |none=>
  rw[hw] at h
  simp only at h
  cases hf:(f c).2 with
  |none=>rw[hf] at h;cases h
  |some v=>
   rw[hf] at h
   simp only[Option.map_some,Option.some.injEq] at h
   have:=ht.his c v hf
   rw[←h]
   exact⟨this.1,by simp only;omega,fun v hv=>by cases hv⟩
 |some u=>
  rw[hw] at h
  simp only at h
  cases u with
  |none=>cases h
  |some v=>
   simp only[Option.map_some,Option.some.injEq] at h
   have:=ht.wr c _ hw
   rw[←h]
   exact⟨by simp only;omega,by simp only;omega,fun _ _=>rfl⟩
theorem pt {l m:List au} (h:l.map (·.1)=m.map (·.1)) {k:Nat} (hk:k<l.length):∃ h2:k<m.length,l[k].1=m[k].1:=by
 have hl:l.length=m.length:=by
  have:=congrArg List.length h
  simpa using this
 refine⟨by omega,?_⟩
 have a:(l.map (·.1))[k]'(by simpa using hk)=(m.map (·.1))[k]'(by simpa using (by omega:k<m.length)):=by simp only[h]
 simpa using a
theorem pC {s:ByteArray} {R:List ax} {P:aI} {f:Nat→Int×Option Int} {Rs:List In} (h:iT s R P f Rs) (ht:my P f) {r i:In} (hr:r∈Rs) (hi:∀ q∈i.facts,cM P f q.1=some q.2) (hc:r.facts.map (·.1)=i.facts.map (·.1)):r.facts=i.facts∨b9 r.facts<b9 i.facts:=by
 by_cases hall:∀ q∈r.facts,cM P f q.1=some q.2
 ·left
  have hl:r.facts.length=i.facts.length:=by
   have:=congrArg List.length hc
   simpa using this
  refine List.ext_getElem hl (fun k h1 h2=>?_)
  obtain⟨_,e⟩:=pt hc h1
  have a:=hall _ (List.getElem_mem h1)
  have b:=hi _ (List.getElem_mem h2)
  rw[e,b] at a
  simp only[Option.some.injEq] at a
  exact Prod.ext e a.symm
 ·right
  simp only[Classical.not_forall] at hall
  obtain⟨q,hq,hn⟩:=hall
  rcases h.now r hr q hq with e|⟨⟨v,hv⟩,e⟩
  ·exact absurd e hn
  ·obtain⟨k,hk,e1⟩:=List.getElem_of_mem hq
   obtain⟨k2,e2⟩:=pt hc hk
   have b:=hi _ (List.getElem_mem k2)
   rw[e1] at e2
   rw[←e2] at b
   have:=(oh ht b).2.2 v hv
   have:=CE (List.getElem_mem k2)
   omega
theorem Ee {s:ByteArray} {R:List ax} {P:aI} {f:Nat→Int×Option Int} {Rs:List In} (h:iT s R P f Rs) (ht:my P f) {i:In} (hi:qS s R i) (hn:∀ q∈i.facts,cM P f q.1=some q.2):ww (tp Rs) i=true↔∃ r∈Rs,r.rule=i.rule∧r.facts=i.facts:=by
 unfold ww
 constructor
 ·intro hm
  simp only[Bool.and_eq_true,beq_iff_eq] at hm
  obtain⟨m1,m2⟩:=hm
  cases hk:tp Rs (bW i) with
  |none=>rw[hk] at m1;cases m1
  |some t=>
   rw[hk] at m2
   simp only[Option.getD_some] at m2
   obtain⟨A,r,B,e1,e2,e3,_⟩:=rK hk
   have hr:r∈Rs:=by rw[e1];simp
   obtain⟨p1,p2⟩:=or (h.shape r hr) hi e2
   rcases pC h ht hr hn p2 with e|e
   ·exact⟨r,hr,p1,e⟩
   ·omega
 ·rintro⟨r,hr,h1,h2⟩
  have hp:bW r=bW i:=by unfold bW kF;rw[h1,h2]
  cases hk:tp Rs (bW i) with
  |none=>exact absurd hp (AZ hk r hr)
  |some t=>
   obtain⟨A,r',B,e1,e2,e3,e4⟩:=rK hk
   have hr':r'∈Rs:=by rw[e1];simp
   obtain⟨p1,p2⟩:=or (h.shape r' hr') hi e2
   simp only[Option.isSome_some,Option.getD_some,Bool.true_and,beq_iff_eq]
   rcases pC h ht hr' hn p2 with e|e
   ·rw[←e3,e]
   ·exfalso
    have hm:=h.mono
    rw[e1,List.pairwise_append] at hm
    rw[e1] at hr
    rcases List.mem_append.mp hr with hr|hr
    ·have:=hm.2.2 r hr r' (by simp) (by rw[hp,e2])
     rw[h2] at this
     omega
    ·rcases List.mem_cons.mp hr with hr|hr
     ·rw[hr] at h2
      rw[h2] at e
      omega
     ·exact e4 r hr hp
theorem my.put {P:aI} {f:Nat→Int×Option Int} (h:my P f) (c:Nat) (v:Option Int):my (P.put c v) f:=by
 have h1:=h.made
 refine⟨h.snap,by show 0≤P.made+1;omega,fun d u hu=>?_,h.his⟩
 show P.snap<cH P.tm c (P.snap+(P.made+1)) d∧cH P.tm c (P.snap+(P.made+1)) d≤P.snap+(P.made+1)
 by_cases e:d=c
 ·rw[e,aW]
  omega
 ·have hu':P.wr d=some u:=by
   have:cH P.wr c (some v) d=some u:=hu
   rw[bE _ _ _ e] at this
   exact this
  rw[bE _ _ _ e]
  have:=h.wr d u hu'
  omega
theorem iT.put {s:ByteArray} {R:List ax} {P:aI} {f:Nat→Int×Option Int} {Rs:List In} (h:iT s R P f Rs) (c:Nat) (v:Option Int):iT s R (P.put c v) f Rs:=by
 refine⟨h.shape,h.facts,fun r hr q hq=>?_,fun r hr=>?_,h.mono⟩
 ·by_cases e:q.1=c
  ·right
   refine⟨⟨v,?_⟩,?_⟩
   ·show cH P.wr c (some v) q.1=some v
    rw[e,aW]
   ·show _<cH P.tm c (P.snap+(P.made+1)) q.1
    rw[e,aW]
    have:=h.clock r hr
    omega
  ·have e1:cM (P.put c v) f q.1=cM P f q.1:=by
    unfold cM
    have a1:(P.put c v).wr q.1=P.wr q.1:=bE _ _ _ e
    have a2:(P.put c v).tm q.1=P.tm q.1:=bE _ _ _ e
    rw[a1,a2]
   rw[e1]
   rcases h.now r hr q hq with k|⟨⟨u,k⟩,k2⟩
   ·exact .inl k
   ·refine .inr ⟨⟨u,?_⟩,?_⟩
    ·show cH P.wr c (some v) q.1=some u
     rw[bE _ _ _ e]
     exact k
    ·show _<cH P.tm c (P.snap+(P.made+1)) q.1
     rw[bE _ _ _ e]
     exact k2
 ·have:=h.clock r hr
  show b9 r.facts≤P.snap+(P.made+1)
  omega
theorem my.puts {f:Nat→Int×Option Int}:∀ (ws:List (Nat×Option Int)) {P:aI},my P f→my (puts P ws) f
 |[],_,h=>h
 |q::ws,_,h=>my.puts ws (h.put q.1 q.2)
theorem iT.puts {s:ByteArray} {R:List ax} {f:Nat→Int×Option Int} {Rs:List In}:∀ (ws:List (Nat×Option Int)) {P:aI},iT s R P f Rs→iT s R (puts P ws) f Rs
 |[],_,h=>h
 |q::ws,_,h=>iT.puts ws (h.put q.1 q.2)
theorem iT.fire {s:ByteArray} {R:List ax} {P:aI} {f:Nat→Int×Option Int} {Rs:List In} (h:iT s R P f Rs) (ht:my P f) {i:In} (hi:qS s R i) (hF:DK i.facts) (hn:∀ q∈i.facts,cM P f q.1=some q.2):iT s R P f (Rs++[i]):=by
 have hm:∀ r,r∈Rs++[i]→r∈Rs∨r=i:=fun r hr=>by
  rcases List.mem_append.mp hr with hr|hr
  ·exact .inl hr
  ·exact .inr (by simpa using hr)
 refine⟨fun r hr=>?_,fun r hr=>?_,fun r hr q hq=>?_,fun r hr=>?_,?_⟩
 ·rcases hm r hr with k|k
  ·exact h.shape r k
  ·rw[k];exact hi
 ·rcases hm r hr with k|k
  ·exact h.facts r k
  ·rw[k];exact hF
 ·rcases hm r hr with k|k
  ·exact h.now r k q hq
  ·rw[k] at hq
   exact .inl (hn q hq)
 ·rcases hm r hr with k|k
  ·exact h.clock r k
  ·rw[k]
   have a1:=ht.snap
   have a2:=ht.made
   exact ED (by omega) (fun q hq=>(oh ht (hn q hq)).2.1)
 ·rw[List.pairwise_append]
  refine⟨h.mono,List.pairwise_singleton _ _,fun r hr r' hr' hp=>?_⟩
  rw[List.mem_singleton] at hr'
  subst hr'
  obtain⟨_,p2⟩:=or (h.shape r hr) hi hp
  rcases pC h ht hr hn p2 with e|e
  ·rw[e];exact Int.le_refl _
  ·omega
end Go.Proofs.YthlhbjnkohinmaaGreat
