import Derived.Test.YthlhbjnkohinmaaGreatP39
namespace Go.Proofs.YthlhbjnkohinmaaGreat
set_option maxRecDepth 100000
set_option maxHeartbeats 8000000
open Go.RowKit
structure yv (S:aJ)(f:Nat→Int×Option Int):Prop where
 wr:∀ c v,S.wr c=some (some v)→0≤v∧v≤9
 his:∀ c v,(f c).2=some v→0≤v∧v≤9
theorem yv.facts {S:aJ}{f:Nat→Int×Option Int}(h:yv S f):re (dk S f 60):=by
 intro q hq
 unfold dk at hq
 obtain⟨c,hc,hm⟩:=List.mem_filterMap.mp hq
 cases hs:cN S f c with
 |none=>rw[hs] at hm;cases hm
 |some p=>
  rw[hs] at hm
  simp only[Option.map_some,Option.some.injEq] at hm
  rw[←hm]
  refine⟨by simpa using hc,?_⟩
  unfold cN at hs
  cases hw:S.wr c with
  |none=>
   rw[hw] at hs
   simp only at hs
   cases hf:(f c).2 with
   |none=>rw[hf] at hs;cases hs
   |some v=>
    rw[hf] at hs
    simp only[Option.map_some,Option.some.injEq] at hs
    rw[←hs]
    exact h.his c v hf
  |some u=>
   rw[hw] at hs
   simp only at hs
   cases u with
   |none=>cases hs
   |some v=>
    simp only[Option.map_some,Option.some.injEq] at hs
    rw[←hs]
    exact h.wr c v hw
theorem E6 {s:ByteArray}{e:fu}{p:Nat}{x:Nat×Option Int}(hok:cT s p=true)(h46:bt s p≠46)(h:qM s e p=some x):x.1<60∧∀ v,x.2=some v→0≤v∧v≤9:=by
 unfold cT at hok
 unfold qM at h
 by_cases h43:bt s p=43
 ·rw[if_pos h43] at hok h
  unfold fJ at hok
  simp only[Bool.and_eq_true] at hok
  have hc:97≤bt s (p+1)∧bt s (p+1)≤102:=by
   have:=hok.1.1
   simp[aR] at this
   exact this
  split at h
  ·rename_i hd
   cases h
   refine⟨by simp only;omega,fun v hv=>?_⟩
   simp only[Option.some.injEq] at hv
   omega
  ·cases h
 ·rw[if_neg h43] at hok h
  by_cases h45:bt s p=45
  ·rw[if_pos h45] at hok
   unfold gm at hok
   simp only[Bool.and_eq_true] at hok
   have hc:97≤bt s (p+1)∧bt s (p+1)≤102:=by
    have:=hok.1
    simp[aR] at this
    exact this
   split at h
   ·cases h
    refine⟨by simp only;omega,fun v hv=>by cases hv⟩
   ·cases h
  ·rw[if_neg h45] at hok
   simp at hok
   exact absurd hok h46
theorem nh {s:ByteArray}{e:fu}{K:List Nat}(hK:∀ p∈K,cT s p=true):∀ j,j≤K.length→∀ q,gb s e (K.take j)=some q→∀ x∈q.1,x.1<60∧∀ v,x.2=some v→0≤v∧v≤9
 |0,_,q,h=>by
  have:q=([],false):=by simpa [gb] using h.symm
  rw[this]
  intro x hx
  cases hx
 |j+1,hj,q,h=>by
  have hlt:j<K.length:=by omega
  rw[oe s e K j hlt] at h
  cases ho:gb s e (K.take j) with
  |none=>rw[ho] at h;cases h
  |some r=>
   have ih:=nh hK j (by omega) r ho
   rw[ho] at h
   simp only[Option.bind_some] at h
   by_cases h46:bt s K[j]=46
   ·rw[if_pos h46] at h
    cases h
    exact ih
   ·rw[if_neg h46] at h
    cases hx:qM s e K[j] with
    |none=>rw[hx] at h;cases h
    |some x=>
     rw[hx] at h
     cases h
     intro y hy
     rcases List.mem_append.mp hy with hy|hy
     ·exact ih y hy
     ·simp at hy
      rw[hy]
      exact E6 (hK _ (List.getElem_mem hlt)) h46 hx
theorem yv.puts {f:Nat→Int×Option Int}{ws:List (Nat×Option Int)}(hw:∀ x∈ws,∀ v,x.2=some v→0≤v∧v≤9):∀ {S:aJ},yv S f→yv (puts S ws) f:=by
 induction ws with
 |nil=>intro S h;exact h
 |cons q ws ih=>
  intro S h
  refine ih (fun x hx=>hw x (by simp[hx])) ⟨fun c v hv=>?_,h.his⟩
  have hv':cI S.wr q.1 (some q.2) c=some (some v):=hv
  unfold cI at hv'
  split at hv'
  ·simp only[Option.some.injEq] at hv'
   exact hw q (by simp) v hv'
  ·exact h.wr c v hv'
def jX (s:ByteArray)(R:List ay)(f:Nat→Int×Option Int)(S:aJ)(fm:Nat→Option Int):Option In:=gK (ep s R) (jx s (dk S f 60) R (wA fm) R.length)
theorem vU {s:ByteArray}{R:List ay}{f:Nat→Int×Option Int}{S:aJ}{fm:Nat→Option Int}{i:In}(h:jX s R f S fm=some i):i∈bA 0 s (dk S f 60) R R.length:=by
 unfold jX gK at h
 have h1:=List.mem_of_mem_head? h
 exact (List.mem_filter.mp (lz.mp h1)).1
theorem mE {s:ByteArray}{F:List aw}{R:List ay}(hF:re F)(hFl:F.length≤60)(hR:∀ r∈R,l7 s r){i:In}(h:i∈bA 0 s F R R.length):i.rule<R.length∧i.facts.length≤3∧∀ n v,i.env n=some v→0≤v∧v≤9:=by
 unfold bA at h
 obtain⟨k,hk,hm⟩:=List.mem_flatMap.mp h
 have hk':k<R.length:=by simpa using hk
 have e:R.getD k (0,[],[])=R[k]:=by simp[List.getD,List.getElem?_eq_getElem hk']
 rw[e] at hm
 obtain⟨h1,h2⟩:=iL hFl k (hR _ (List.getElem_mem hk')) i hm
 exact⟨by omega,h1,(pB hF k _ i hm).env⟩
def cW (s:ByteArray)(R:List ay)(f:Nat→Int×Option Int):Nat→aJ→(Nat→Option Int)→(Nat×Int)×aJ×(Nat→Option Int)
 |0,S,fm=>((0,if (jX s R f S fm).isSome then 2 else 1),S,fm)
 |n+1,S,fm=>match jX s R f S fm with
  |none=>((0,1),S,fm)
  |some i=>match gb s i.env (R.getD i.rule (0,[],[])).2.2 with
   |none=>((0,4),S,fm)
   |some q=>if q.2 then ((1,3),puts S q.1,cI fm (bW i) (some (b9 i.facts))) else
    (((cW s R f n (puts S q.1) (cI fm (bW i) (some (b9 i.facts)))).1.1+1,(cW s R f n (puts S q.1) (cI fm (bW i) (some (b9 i.facts)))).1.2),(cW s R f n (puts S q.1) (cI fm (bW i) (some (b9 i.facts)))).2)
structure fK (b o:Nat)(G:List Nat)(S:aJ)(fm:Nat→Option Int)(m:Option Nat)(w0 w:World):Prop where
 ses:cJ w b o { S with mks:=m }
 mar:jH m fm w
 chg:D0 b o G w0 w
 ne:m≠some b
 old:∀ g,m=some g→g∈G∨w0.heap.size≤g
theorem fK.grown {b o:Nat}{G:List Nat}{S:aJ}{fm:Nat→Option Int}{m:Option Nat}{w0 w w':World}(h:fK b o G S fm m w0 w)(hg:w.grownBy w' none):fK b o G S fm m w0 w':=
 ⟨h.ses.grown hg,h.mar.grown hg,⟨h.chg.fr.trans ((aK hg).mono (fun k hk=>by cases hk)),fun i hi=>by
  rw[←h.chg.cell i hi]
  have hl:b<w.heap.size:=World.block_lt_of_cell? w _ h.ses.num
  simp only[World.cell?,hg.block b hl (by simp)],fun hk=>by
  obtain⟨cs,h1⟩:=h.chg.blk hk
  exact⟨cs,(hg.block b (lt_of_block h1) (by simp)).trans h1⟩⟩,h.ne,h.old⟩
theorem fK.fire {b o p:Nat}{t:Int}{G:List Nat}{S:aJ}{fm:Nat→Option Int}{m:Option Nat}{ws:List (Nat×Option Int)}{w0 w w':World}(h:fK b o G S fm m w0 w)(hf:qW b o { S with mks:=m } fm p t ws w w'):∃ g,fK b o G (puts S ws) (cI fm p (some t)) (some g) w0 w':=by
 obtain⟨g,h1,h2,h3,h4,h5⟩:=hf
 have hp:∀ (ws:List (Nat×Option Int)) (S:aJ) (x:Option Nat),puts { S with mks:=x } ws={ puts S ws with mks:=x }:=by
  intro ws
  induction ws with
  |nil=>intro S x;rfl
  |cons q ws ih=>intro S x;exact ih (S.put q.1 q.2) x
 have hm:∀ k,k<w0.heap.size→k∉b::G→k∉b::m.toList:=by
  intro k hk hn hx
  rcases List.mem_cons.mp hx with e|e
  ·exact hn (by simp[e])
  ·cases hmm:m with
   |none=>rw[hmm] at e;cases e
   |some g2=>
    rw[hmm] at e
    simp at e
    rcases h.old g2 hmm with hg|hg
    ·exact hn (by simp[e,hg])
    ·omega
 have hsz0:=h.chg.fr.size
 refine⟨g,⟨by rw[←hp];exact h1,h2,⟨⟨h3.fr.os.trans h.chg.fr.os,h3.fr.tape.trans h.chg.fr.tape,h3.fr.output.trans h.chg.fr.output,Nat.le_trans hsz0 h3.fr.size,fun k hk hn=>(h3.fr.block k (by omega) (hm k hk hn)).trans (h.chg.fr.block k hk hn)⟩,fun i hi=>(h3.cell i hi).trans (h.chg.cell i hi),fun hk=>?_⟩,fun e=>h4 (Option.some.inj e),fun g2 hg2=>?_⟩⟩
 ·obtain⟨cs,q1⟩:=h.chg.blk hk
  exact h3.blk q1
 ·cases hg2
  rcases h5 with h5|h5
  ·exact h.old g h5
  ·exact .inr (by omega)
theorem qW.block {b o p:Nat}{t:Int}{S:aJ}{fm:Nat→Option Int}{ws:List (Nat×Option Int)}{w w':World}(h:qW b o S fm p t ws w w'){k:Nat}(hk:k<w.heap.size)(hb:k≠b)(hg:∀ g,S.mks=some g→k≠g):w'.heap[k]?=w.heap[k]?:=by
 obtain⟨_,_,_,h3,_,_⟩:=h
 refine h3.fr.block k hk (fun hm=>?_)
 rcases List.mem_cons.mp hm with e|e
 ·exact hb e
 ·cases hx:S.mks with
  |none=>rw[hx] at e;cases e
  |some g=>
   rw[hx] at e
   simp at e
   exact hg g hx e
theorem DP (b o:Nat)(S:aJ)(fm:Nat→Option Int)(f:Nat→Int×Option Int)(sl:List Value)(s:ByteArray)(R:List ay)(ra:Option Addr)(rc B:Nat)(fuel:Nat)(w:World){cs:Array Value}{ty:TypeId}(hb:w.heap[b]?=some (.cells cs ty (0,0)))(h:cJ w b o S)(hM:jH S.mks fm w)(hne:S.mks≠some b)(hsc:jg sl.toArray 60 f)(hw:yv S f)
  (hR:∀ r∈R,l7 s r) (hA:∀ r∈R,(∀ p∈r.2.2,cT s p=true)∧r.2.2.length≤4) (hR9:R.length≤9) (hrow:∀ W,Fr (b::S.mks.toList) w W→bS W B s (.slice ra R.length rc) R) (hfu:fuel≤99) (hsn:0≤S.snap) (hmo:S.snap+(S.made+100000)≤9223372036854775807) :
  Calls Tryz.prog 66 #[.pointer (some ⟨b,o,none⟩),.slice ra R.length rc,.agg sl.toArray,.int .i64 fuel] w fun e w'=>e=.returned (.tuple #[.int .i64 (cW s R f fuel S fm).1.1,.int .i64 (cW s R f fuel S fm).1.2])∧∃ m,fK b o S.mks.toList (cW s R f fuel S fm).2.1 (cW s R f fuel S fm).2.2 m w w':=by
 have hbl:=lt_of_block hb
 have hsl:sl.length=180:=by have:=hsc.size;simpa using this
 have hgl:∀ g,S.mks=some g→g<w.heap.size:=fun g hg=>by
  rw[hg] at hM
  obtain⟨Z,h1,_⟩:=hM
  exact lt_of_block h1
 have HGL:=af hgl
 obtain⟨G,hG⟩:∃ G,G=S.mks.toList:=⟨_,rfl⟩
 have hGm:∀ g∈G,g<w.heap.size:=fun g hg=>by
  rw[hG] at hg
  cases hm:S.mks with
  |none=>rw[hm] at hg;cases hg
  |some g2=>
   rw[hm] at hg
   simp at hg
   rw[hg]
   exact hgl g2 hm
 have hst:fK b o G S fm S.mks w (w.alloc (.cells sl.toArray 139)):=by
  have h0:fK b o G S fm S.mks w w:=⟨h,hM,⟨Fr.refl _ _,fun _ _=>rfl,fun hk=>⟨_,hk⟩⟩,hne,fun g hg=>.inl (by rw[hG,hg];simp)⟩
  exact h0.grown (ab (ag _ _) _)
 rw[←hG] at hrow ⊢
 have HBV:Hid ((w.alloc (.cells sl.toArray 139)).heap[w.heap.size]?=some (.cells sl.toArray 139 (0,0))):=af (heap_alloc_new w _)
 have HISL:Hid ((Tryz.prog.info? 139).map (·.size)=some sl.length):=af (by rw[hsl];kernel_rfl)
 have HST:=af hst
 have HROW:=af hrow
 have HR:=af hR
 have HA:=af hA
 have HSC:=af hsc
 have HGM:=af hGm
 have HB:=af hb
 have HW:=af hw
 have HFIRST:Hid (∀ (S':aJ) (fm':Nat→Option Int) (m:Option Nat) (W:World),fK b o G S' fm' m w W→Calls Tryz.prog 95 #[.pointer (some ⟨b,o,none⟩),.slice ra R.length rc,.agg sl.toArray] W fun e w'=>e=.returned (.tuple #[.agg (kF (ep s R) (jX s R f S' fm')).toArray,.bool (jX s R f S' fm').isSome])∧W.grownBy w' none):=af (fun S' fm' m W hW=>
  xu b o { S' with mks:=m } f sl s R ra rc B fm' W hW.ses hsc hW.mar hR hR9 (hrow W hW.chg.fr))
 clear h hM hne hsc hw hR hA hrow hgl hG hst hGm hb
 obtain⟨res,hres⟩:∃ res,res=cW s R f fuel S fm:=⟨_,rfl⟩
 rw[←hres]
 have HRES:=af hres
 clear hres
 have hsz0:=hbl
 go_enter Tryz.func66,Tryz.ntmps66
 go_wp2_with fail
 go_loopw [10] (fun t wr=>∃ (k:Nat) (S':aJ) (fm':Nat→Option Int) (m:Option Nat),k≤fuel∧t=.int .i64 k∧fK b o G S' fm' m w wr∧wr.heap[w.heap.size]?=some (.cells sl.toArray 139 (0,0))∧yv S' f∧S'.snap=S.snap∧S'.made≤S.made+400*k∧res=((k+(cW s R f (fuel - k) S' fm').1.1,(cW s R f (fuel - k) S' fm').1.2),(cW s R f (fuel - k) S' fm').2)) (fun t _=>fuel - (intOf t).toNat)
 case atStart=>exact⟨0,S,fm,S.mks,by omega,rfl,HST.out,HBV.out,HW.out,rfl,by omega,by rw[HRES.out];simp⟩
 case round=>
  obtain⟨k,S',fm',m,hk,rfl,hrun,hbv,hwo,hsnap,hmade,hr0⟩:=hrel
  have HRUN:=af hrun
  have HBVR:=af hbv
  have HR0:=af hr0
  have HWO:=af hwo
  have lv:=lt_of_block hbv
  have HRV:Hid (wr.rangeAt w.heap.size 0 sl):=af (aF hbv rfl)
  have HF1:=af (HFIRST.out S' fm' m wr hrun)
  obtain⟨fi,hfi⟩:∃ fi,fi=jX s R f S' fm':=⟨_,rfl⟩
  rw[←hfi] at HF1
  obtain⟨M,hM⟩:∃ M,M=kF (ep s R) fi:=⟨_,rfl⟩
  rw[←hM] at HF1
  have hMl:M.length=24:=by rw[hM];exact kN _ _
  have HIM:Hid ((Tryz.prog.info? 176).map (·.size)=some M.length):=af (by rw[hMl];exact bE)
  have HOM:Hid (M.toArray.all (·.oneCell')=true):=af (all_oneCell_toArray (by rw[hM];exact qa _ _))
  have HFI:=af hfi
  by_cases hlt:k<fuel
  ·obtain⟨n,hn⟩:∃ n,fuel - k=n+1:=⟨fuel - k - 1,by omega⟩
   rw[hn] at HR0
   have HN:Hid (fuel - (k+1)=n):=af (by omega)
   cases hfc:fi with
   |none=>
    subst hfc
    have HRR:Hid (res=((k,1),S',fm')):=af (by
     rw[HR0.out]
     unfold cW
     rw[←HFI.out]
     rfl)
    simp only[Option.isSome_none] at HF1
    clear hrun hbv hr0 hwo hM hfi HR0 hn
    go_wp2_with (first
     |(refine wpList_load_mid rfl 139 (.tmp 6) rfl w.heap.size 0 rfl sl _ HRV.out Tryz.underlying139 rfl HISL.out ?_))
    go_at_call 95
    refine HF1.out.mono ?_
    rintro e w1 ⟨rfl,hg1⟩
    have HRN:=af ((HRUN.out.grown hg1).grown (ab (ag _ _) (.cells M.toArray 176)))
    clear hg1
    go_wp2_with (first
     |(refine az rfl 176 (.tmp 11) (.tmp 27) rfl _ M rfl rfl hMl.symm HIM.out HOM.out ?_))
    go_ret2
    rw[HRR.out]
    exact⟨rfl,m,HRN.out⟩
   |some i=>
    subst hfc
    have hiM:M=aG (ep s R i.rule) i:=by rw[hM];rfl
    have hmem:=vU hfi.symm
    obtain⟨i1,i2,i3⟩:=mE hwo.facts (iC S' f 60) HR.out hmem
    obtain⟨q1,q2⟩:=HA.out _ (List.getElem_mem i1)
    have eg:R.getD i.rule (0,[],[])=R[i.rule]:=by simp[List.getD,List.getElem?_eq_getElem i1]
    have HWK:Hid (∀ W,Fr (b::G) w W→Calls Tryz.prog 96 #[.slice ra R.length rc,.agg M.toArray] W fun e w'=>pf W (gb s i.env R[i.rule].2.2) e w'∧W.grownBy w' none):=af (fun W hW=>by
     rw[hiM]
     exact Bh s R ra rc B (ep s R i.rule) i W i1 (HROW.out W hW) q1 (by omega) i3)
    simp only[Option.isSome_some] at HF1
    cases ho:gb s i.env R[i.rule].2.2 with
    |none=>
     have HRR:Hid (res=((k,4),S',fm')):=af (by
      rw[HR0.out]
      unfold cW
      rw[←HFI.out]
      simp only[]
      rw[eg,ho]
      rfl)
     rw[ho] at HWK
     clear hrun hbv hr0 hwo hM hfi HR0 hn hiM hmem
     go_wp2_with (first
      |(refine wpList_load_mid rfl 139 (.tmp 6) rfl w.heap.size 0 rfl sl _ HRV.out Tryz.underlying139 rfl HISL.out ?_))
     go_at_call 95
     refine HF1.out.mono ?_
     rintro e w1 ⟨rfl,hg1⟩
     have HRN:=af ((HRUN.out.grown hg1).grown (ab (ag _ _) (.cells M.toArray 176)))
     have HRM:Hid ((w1.alloc (.cells M.toArray 176)).rangeAt w1.heap.size 0 M):=af (aF (heap_alloc_new w1 _) rfl)
     clear hg1
     go_wp2_with (first
      |(refine az rfl 176 (.tmp 11) (.tmp 27) rfl _ M rfl rfl hMl.symm HIM.out HOM.out ?_)
      |(refine wpList_load_mid rfl 176 (.tmp 11) rfl w1.heap.size 0 rfl M _ HRM.out Tryz.underlying176 rfl HIM.out ?_))
     go_at_call 96
     refine (HWK.out _ HRN.out.chg.fr).mono ?_
     rintro e w2 ⟨hans,hg2⟩
     simp only[pf] at hans
     subst hans
     have HRN2:=af ((HRN.out.grown hg2).grown (ab (ag _ _) (.cells #[.slice none 0 0,.bool false] 187)))
     clear hg2
     go_wp2_with fail
     go_ret2
     rw[HRR.out]
     exact⟨rfl,m,HRN2.out⟩
    |some q=>
     obtain⟨ws,hh⟩:=q
     have hoT:gb s i.env (R[i.rule].2.2.take R[i.rule].2.2.length)=some (ws,hh):=by rw[List.take_length];exact ho
     have hwq:=nh q1 _ (Nat.le_refl _) _ hoT
     have hwn:=lg s i.env R[i.rule].2.2 _ (Nat.le_refl _) _ hoT
     simp only at hwq hwn
     have hpm:=nO ws S'
     have HRRT:Hid (hh=true→res=((k+1,3),puts S' ws,cI fm' (bW i) (some (b9 i.facts)))):=af (fun e=>by
      rw[HR0.out]
      unfold cW
      rw[←HFI.out]
      simp only[]
      rw[eg,ho,e]
      simp)
     have HRRF:Hid (hh=false→res=((k+1+(cW s R f n (puts S' ws) (cI fm' (bW i) (some (b9 i.facts)))).1.1,(cW s R f n (puts S' ws) (cI fm' (bW i) (some (b9 i.facts)))).1.2),(cW s R f n (puts S' ws) (cI fm' (bW i) (some (b9 i.facts)))).2)):=af (fun e=>by
      rw[HR0.out]
      rw[show cW s R f (n+1) S' fm'=(((cW s R f n (puts S' ws) (cI fm' (bW i) (some (b9 i.facts)))).1.1+1,(cW s R f n (puts S' ws) (cI fm' (bW i) (some (b9 i.facts)))).1.2),(cW s R f n (puts S' ws) (cI fm' (bW i) (some (b9 i.facts)))).2) by
       conv=>lhs;unfold cW
       rw[←HFI.out]
       simp only[]
       rw[eg,ho,e]
       simp]
      simp only[Prod.mk.injEq,and_true]
      omega)
     rw[ho] at HWK
     have HWOP:Hid (yv (puts S' ws) f):=af (HWO.out.puts (fun x hx=>(hwq x hx).2))
     have hgne:∀ g,m=some g→w.heap.size≠g∧g<wr.heap.size:=fun g hg=>by
      have hmar:=hrun.mar
      rw[hg] at hmar
      obtain⟨Z,h1,_⟩:=hmar
      refine⟨fun e=>?_,lt_of_block h1⟩
      rw[←e,hbv] at h1
      simp at h1
     have HGNE:=af hgne
     have HFIRE:Hid (∀ (W:World) (ea:Option Addr) (ec BE:Nat),fK b o G S' fm' m w W→W.ownsRow BE 221 3 (.slice ea ws.length ec) ws.length (Cf ws)→b<BE→wr.heap.size≤BE→Calls Tryz.prog 97 #[.pointer (some ⟨b,o,none⟩),.agg M.toArray,.slice ea ws.length ec] W fun e w'=>e=.returned (.tuple #[])∧qW b o { S' with mks:=m } fm' (bW i) (b9 i.facts) ws W w'):=af (fun W ea ec BE hW hrow hB hBE=>by
      obtain⟨cs2,hb2⟩:=hW.chg.blk HB.out
      rw[hiM]
      exact zT (ep s R i.rule) i b o { S' with mks:=m } fm' ws ea ec BE W hb2 (by omega) i2 hW.ses hW.mar hW.ne (fun x hx=>(hwq x hx).1) (by omega) hrow hB (fun g hg=>by have:=(hgne g hg).2;omega) (by simp only;omega) (by simp only;omega))
     have hl9:ws.length≤4:=by omega
     have hbwr:b<wr.heap.size:=by omega
     clear hrun hbv hr0 hwo hM hfi HR0 hn hmem hoT hwq ho hgne hiM
     go_wp2_with (first
      |(refine wpList_load_mid rfl 139 (.tmp 6) rfl w.heap.size 0 rfl sl _ HRV.out Tryz.underlying139 rfl HISL.out ?_))
     go_at_call 95
     refine HF1.out.mono ?_
     rintro e w1 ⟨rfl,hg1⟩
     have HG1:=af hg1
     have HRN:=af ((HRUN.out.grown hg1).grown (ab (ag _ _) (.cells M.toArray 176)))
     have HRM:Hid ((w1.alloc (.cells M.toArray 176)).rangeAt w1.heap.size 0 M):=af (aF (heap_alloc_new w1 _) rfl)
     have hs1:=hg1.size
     clear hg1
     go_wp2_with (first
      |(refine az rfl 176 (.tmp 11) (.tmp 27) rfl _ M rfl rfl hMl.symm HIM.out HOM.out ?_)
      |(refine wpList_load_mid rfl 176 (.tmp 11) rfl w1.heap.size 0 rfl M _ HRM.out Tryz.underlying176 rfl HIM.out ?_))
     go_at_call 96
     refine (HWK.out _ HRN.out.chg.fr).mono ?_
     rintro e w2 ⟨hans,hg2⟩
     simp only[pf] at hans
     obtain⟨ev,rfl,hev⟩:=hans
     obtain⟨ea,em,ec,rfl⟩:=an hev
     have eem:=ar hev
     subst eem
     have hs2:w1.heap.size+1≤w2.heap.size:=by
      have:=hg2.size
      simp at this
      exact this
     have HGB:Hid (w2.grownBy (w2.alloc (.cells #[.slice ea ws.length ec,.bool hh] 187)) none):=af (ab (ag _ _) _)
     have HRN2:=af ((HRN.out.grown hg2).grown HGB.out)
     have HEV:=af (aq hev HGB.out (fun g hg=>by cases hg))
     have hbm2:=(hg2.block _ (lt_of_block (heap_alloc_new w1 (.cells M.toArray 176))) (by simp)).trans (heap_alloc_new w1 (.cells M.toArray 176))
     have HRM2:Hid ((w2.alloc (.cells #[.slice ea ws.length ec,.bool hh] 187)).rangeAt w1.heap.size 0 M):=af (aF ((Below.heap_alloc _ _ _ (lt_of_block hbm2)).trans hbm2) rfl)
     have HBO:Hid ((w2.alloc (.cells #[.slice ea ws.length ec,.bool hh] 187)).heap[w2.heap.size]?=some (.cells #[.slice ea ws.length ec,.bool hh] 187 (0,0))):=af (heap_alloc_new w2 _)
     have hbv2:(w2.alloc (.cells #[.slice ea ws.length ec,.bool hh] 187)).heap[w.heap.size]?=some (.cells sl.toArray 139 (0,0)):=by
      have h1:=(HG1.out.block _ lv (by simp)).trans HBVR.out
      have h2:=(Below.heap_alloc w1 (.cells M.toArray 176) _ (lt_of_block h1)).trans h1
      have h3:=(hg2.block _ (lt_of_block h2) (by simp)).trans h2
      exact (Below.heap_alloc _ _ _ (lt_of_block h3)).trans h3
     have HBV2:=af hbv2
     clear hg2 hev hbm2 hbv2 HRN HRM HF1 HWK
     go_wp2_with (first
      |(refine wpList_load_mid rfl 176 (.tmp 11) rfl w1.heap.size 0 rfl M _ HRM2.out Tryz.underlying176 rfl HIM.out ?_))
     go_at_call 97
     refine (HFIRE.out _ ea ec _ HRN2.out HEV.out (by simp;omega) (by simp;omega)).mono ?_
     rintro e w3 ⟨rfl,hfire⟩
     have hbo3:w3.heap[w2.heap.size]?=some (.cells #[.slice ea ws.length ec,.bool hh] 187 (0,0)):=(hfire.block (lt_of_block HBO.out) (by omega) (fun g hg=>by have:=(HGNE.out g hg).2;omega)).trans HBO.out
     have HBV3:Hid (w3.heap[w.heap.size]?=some (.cells sl.toArray 139 (0,0))):=af ((hfire.block (lt_of_block HBV2.out) (by omega) (fun g hg=>(HGNE.out g hg).1)).trans HBV2.out)
     obtain⟨g3,hrun3⟩:=HRN2.out.fire hfire
     have HRUN3:=af hrun3
     have c1:w3.cell? ⟨w2.heap.size,1,none⟩=some (.bool hh):=by rw[cell_of_row _ _ _ _ _ _ hbo3];rfl
     obtain⟨pp,hpp⟩:∃ pp,pp=cI fm' (bW i) (some (b9 i.facts)):=⟨_,rfl⟩
     rw[←hpp] at HRRT HRRF HRUN3
     have hpm1:=hpm.1
     have hpm2:=hpm.2.1
     clear hfire hbo3 hrun3 hpp hpm HFIRE HRM2 HEV HRN2
     cases hh with
     |true=>
      have HRR:=af (HRRT.out rfl)
      clear HRRT HRRF
      go_wp2_with fail
      go_ret2
      rw[HRR.out]
      exact⟨by first|rfl|(simp),_,HRUN3.out⟩
     |false=>
      have HRR:=af (HRRF.out rfl)
      clear HRRT HRRF
      go_wp2_with fail
      go_roundw
      case rel=>exact⟨k+1,puts S' ws,pp,some g3,by omega,by go_num,HRUN3.out,HBV3.out,HWOP.out,by rw[hpm2];exact hsnap,by rw[hpm1];omega,by rw[HN.out];exact HRR.out⟩
      case measure=>simp[intOf];omega
  ·have hkf:k=fuel:=by omega
   subst hkf
   have HRR:Hid (res=((k,if fi.isSome then 2 else 1),S',fm')):=af (by
    rw[HR0.out]
    simp[cW,←HFI.out])
   obtain⟨fo,hfo⟩:∃ fo,fo=fi.isSome:=⟨_,rfl⟩
   rw[←hfo] at HF1 HRR
   clear hrun hbv hr0 hwo hM hfi HR0 hfo
   go_wp2_with (first
    |(refine wpList_load_mid rfl 139 (.tmp 6) rfl w.heap.size 0 rfl sl _ HRV.out Tryz.underlying139 rfl HISL.out ?_))
   go_at_call 95
   refine HF1.out.mono ?_
   rintro e w1 ⟨rfl,hg1⟩
   have HRN:=af ((HRUN.out.grown hg1).grown (ab (ag _ _) (.cells M.toArray 176)))
   clear hg1 HF1
   cases fo with
   |true=>
    go_wp2_with (first
     |(refine az rfl 176 (.tmp 15) (.tmp 55) rfl _ M rfl rfl hMl.symm HIM.out HOM.out ?_))
    go_ret2
    rw[HRR.out]
    exact⟨rfl,m,HRN.out⟩
   |false=>
    go_wp2_with (first
     |(refine az rfl 176 (.tmp 15) (.tmp 55) rfl _ M rfl rfl hMl.symm HIM.out HOM.out ?_))
    go_ret2
    rw[HRR.out]
    exact⟨rfl,m,HRN.out⟩
theorem fK.since {b o:Nat}{G:List Nat}{S:aJ}{fm:Nat→Option Int}{m:Option Nat}{w0 W W' w:World}(h:fK b o G S fm m W' w)(hW:w0.grownBy W none)(hd:W'.heap=W.heap∧W'.os=W.os∧W'.tape=W.tape∧W'.output=W.output)(hb:b<w0.heap.size):fK b o G S fm m w0 w:=by
 obtain⟨d1,d2,d3,d4⟩:=hd
 have e:=hW.block b hb (by simp)
 have hf:=aK hW
 refine⟨h.ses,h.mar,⟨⟨h.chg.fr.os.trans (d2.trans hf.os),h.chg.fr.tape.trans (d3.trans hf.tape),h.chg.fr.output.trans (d4.trans hf.output),Nat.le_trans hf.size (by have:=h.chg.fr.size;rw[d1] at this;exact this),fun k hk hn=>?_⟩,fun i hi=>?_,fun hk=>?_⟩,h.ne,fun g hg=>?_⟩
 ·refine (h.chg.fr.block k (by rw[d1];exact Nat.lt_of_lt_of_le hk hf.size) hn).trans ?_
  rw[d1]
  exact hf.block k hk (by simp)
 ·refine (h.chg.cell i hi).trans ?_
  simp only[World.cell?,d1,e]
 ·exact h.chg.blk (by rw[d1];exact e.trans hk)
 ·rcases h.old g hg with h1|h1
  ·exact .inl h1
  ·rw[d1] at h1
   exact .inr (Nat.le_trans hf.size h1)
theorem Al (x:Nat)(X:ap)(kv:Nat→Value)(n:Int)(k fuel:Nat)(fm:Nat→Option Int)(s:ByteArray)(R:List ay)(rv:Value)(B:Nat)(w:World)(h:jv w x X kv)(hR:oE w X kv)(hl:∀ c,c<60→(X.hist c).length≤9223372036854775807)(hf:aM X n=some k)(hM:jH (X.ses k).mks fm w)(hne:(X.ses k).mks≠some x)
  (hw:yv (X.ses k) (fun c=>aN (X.hist c) (X.ses k).snap)) (hsrc:X.src.1.1=rv) (hrl:∀ W,Fr (x::(X.ses k).mks.toList) w W→bS W B s rv R) (hRW:∀ r∈R,l7 s r) (hA:∀ r∈R,(∀ p∈r.2.2,cT s p=true)∧r.2.2.length≤4) (hR9:R.length≤9) (hfu:fuel≤99) (hsn0:0≤(X.ses k).snap) (hmo:(X.ses k).snap+((X.ses k).made+100000)≤9223372036854775807) :
  Calls Tryz.prog 33 #[.pointer (some ⟨x,0,none⟩),.int .i64 n,.int .i64 fuel] w fun e w'=>e=.returned (.tuple #[.int .i64 (cW s R (fun c=>aN (X.hist c) (X.ses k).snap) fuel (X.ses k) fm).1.1,.int .i64 (cW s R (fun c=>aN (X.hist c) (X.ses k).snap) fuel (X.ses k) fm).1.2,.int .i64 0])∧∃ m,fK x (3+k*244) (X.ses k).mks.toList (cW s R (fun c=>aN (X.hist c) (X.ses k).snap) fuel (X.ses k) fm).2.1 (cW s R (fun c=>aN (X.hist c) (X.ses k).snap) fuel (X.ses k) fm).2.2 m w w':=by
 have HF:=af (eW x X n w h.ses)
 rw[hf] at HF
 have hk:k<8:=by
  unfold aM at hf
  split at hf
  ·cases hf
  ·exact (bx hf).1
 have c1:=(h.ses k hk).snap
 have hxl:=h.lt
 have hc0:=h.rules
 rw[hsrc] at hc0
 obtain⟨ra,rm,rc,rfl⟩:∃ a m c,rv=.slice a m c:=by
  obtain⟨xs,h1,_⟩:=hrl w (Fr.refl _ _)
  exact an h1
 have erm:rm=R.length:=by
  obtain⟨xs,h1,_⟩:=hrl w (Fr.refl _ _)
  exact ar h1
 subst erm
 obtain⟨sn,hsn⟩:∃ sn,sn=(X.ses k).snap:=⟨_,rfl⟩
 rw[←hsn] at c1
 have HAT:Hid (∀ W,w.grownBy W none→Calls Tryz.prog 65 #[.pointer (some ⟨x,1955,none⟩),.int .i64 sn] W fun e w'=>(∃ sc,e=.returned (.agg sc)∧jg sc 60 (fun c=>aN (X.hist c) sn))∧W.grownBy w' none):=af (fun W hg=>yR x 1955 X kv sn W (h.grown hg).store (fun c hc=>jw hg (hR c hc)) hl)
 obtain⟨cs,hb⟩:=h.block
 have HRUN:Hid (∀ (W:World) (cl:List Value),w.grownBy W none→jg cl.toArray 60 (fun c=>aN (X.hist c) sn)→Calls Tryz.prog 66 #[.pointer (some ⟨x,3+k*244,none⟩),.slice ra R.length rc,.agg cl.toArray,.int .i64 fuel] W fun e w'=>e=.returned (.tuple #[.int .i64 (cW s R (fun c=>aN (X.hist c) (X.ses k).snap) fuel (X.ses k) fm).1.1,.int .i64 (cW s R (fun c=>aN (X.hist c) (X.ses k).snap) fuel (X.ses k) fm).1.2])∧∃ m,fK x (3+k*244) (X.ses k).mks.toList (cW s R (fun c=>aN (X.hist c) (X.ses k).snap) fuel (X.ses k) fm).2.1 (cW s R (fun c=>aN (X.hist c) (X.ses k).snap) fuel (X.ses k) fm).2.2 m W w'):=af (fun W cl hg hcl=>by
  rw[hsn] at hcl
  exact DP x (3+k*244) (X.ses k) fm (fun c=>aN (X.hist c) (X.ses k).snap) cl s R ra rc B fuel W ((hg.block x hxl (by simp)).trans hb) ((h.grown hg).ses k hk) (hM.grown hg) hne hcl hw hRW hA hR9 (fun W2 hW2=>hrl W2 (((aK hg).mono (fun q hq=>by cases hq)).trans hW2)) hfu hsn0 hmo)
 obtain⟨hz,hzs⟩:=zero_of_info Tryz.zinfo139
 obtain⟨z,hzz⟩:∃ z,z=iP:=⟨_,rfl⟩
 have hzsz:Hid (z.size=180):=af (by rw[hzz];exact io)
 rw[←hzz] at hz
 have HZS:=af hzs
 have HX0:=af hc0
 have HGM0:Hid (∀ g∈(X.ses k).mks.toList,g<w.heap.size):=af (fun g hg=>by
  cases hm:(X.ses k).mks with
  |none=>rw[hm] at hg;cases hg
  |some g2=>
   rw[hm] at hg hM
   simp at hg
   rw[hg]
   obtain⟨Z,h1,_⟩:=hM
   exact lt_of_block h1)
 generalize hG:(X.ses k).mks.toList=G at HRUN HGM0 ⊢
 have HGM:=HGM0
 generalize hRR:cW s R (fun c=>aN (X.hist c) (X.ses k).snap) fuel (X.ses k) fm=rr at HRUN ⊢
 clear h hR hl hzz hzs hf hM hne hw hsrc hrl hRW hA hG hRR hmo hsn0 hsn hb
 have hxz:x≠w.heap.size:=by omega
 have hf0:(0:Int)≤(fuel:Int):=by omega
 have hf9:(fuel:Int)≤99:=by omega
 go_enter Tryz.func33,Tryz.ntmps33
 go_wp2_with fail
 go_at_call 41
 refine HF.out.mono ?_
 rintro e w' ⟨rfl,rfl⟩
 simp only[dp]
 go_wp2_with fail
 have hne:=World.new_ne w' ⟨x,3+k*244+1,none⟩ c1
 go_region_held3 (fun W=>W.cell? ⟨x,3+k*244+1,none⟩=some (.int .i64 sn)) (first|go_keep|(exact am hg1 (by assumption))|(rw[jC (by first|exact hxn1|exact hxz)];assumption)) (first
  |(go_at_call 65
    refine (HAT.out _ (by first|exact al (ag _ _) 1|exact al (ab (ag _ _) _) 1|exact ab (al (ag _ _) 1) _)).mono ?_
    rintro e w1 ⟨⟨sc,rfl,hsc⟩,hg1⟩
    obtain⟨cl,rfl⟩:∃ cl:List Value,sc=cl.toArray:=⟨sc.toList,by simp⟩
    have HSC:=af hsc
    have hcl:cl.length=180:=by have:=hsc.size;simpa using this
    have hinf:(Tryz.prog.info? 139).map (·.size)=some cl.length:=HZS.out.trans (by rw[hcl])
    have hone:∀ v∈cl,v.oneCell'=true:=fun v hv=>Array.all_eq_true_iff_forall_mem.1 hsc.one v (by simpa using hv)
    clear hsc
    have hxn1:x≠w1.heap.size:=by have:=hg1.size;simp at this;omega
    have HthA:(w1.alloc (.cells z 139)).there w1.heap.size 0 180:=so w1 hzsz.out
    try (have HthB:w1.there w'.heap.size 0 180:=ly hzsz.out ((hg1.block w'.heap.size (by simp) (by simp)).trans (heap_alloc_new _ _)))))
 ·have HR2:=af (World.rangeAt_setCells_same _ w1.heap.size 0 cl (by rw[hcl];exact HthA))
  have HG2:Hid (w'.grownBy ((w1.alloc (.cells z 139)).setCells w1.heap.size 0 cl) none):=af (cy (by have:=hg1.size;simpa using this) _ _ (ab (cF (n:=1) hg1) _))
  have hs1:w'.heap.size≤w1.heap.size:=by have:=hg1.size;simpa using this
  clear HthA hg1
  generalize (w1.alloc (.cells z 139)).setCells w1.heap.size 0 cl=W2 at HR2 HG2 ⊢
  have HX2:=af (am HG2.out HX0.out)
  go_wp2_with fail
  refine wp_region_held_drew (S:=fun W=>W.rangeAt w1.heap.size 0 cl∧W.cell? ⟨x,0,none⟩=some (.slice ra R.length rc)) (by kernel_rfl) ⟨HR2.out,HX2.out⟩ (fun hHeld=>?_)
  refine wpAnyH_take (i:=0) (v:=.pointer (some ⟨x,3+k*244,none⟩)) rfl (by kernel_rfl) (by kernel_rfl) (by kernel_rfl) (fun _ _ _ h=>h) (Or.inl ⟨by rfl,?_⟩) hHeld ?_
  ·intro W hSw
   have s2:=hSw.2
   go_simp
  refine wpAnyH_take (i:=1) (v:=.pointer (some ⟨x,0,none⟩)) rfl (by kernel_rfl) (by kernel_rfl) (by kernel_rfl) (fun _ _ _ h=>h) (Or.inl ⟨by rfl,?_⟩) hHeld ?_
  ·intro W hSw
   have s2:=hSw.2
   go_simp
  refine wpAnyH_take (i:=2) (v:=.pointer (some ⟨x,0,none⟩)) rfl (by kernel_rfl) (by kernel_rfl) (by kernel_rfl) (fun _ _ _ h=>h) (Or.inl ⟨by rfl,?_⟩) hHeld ?_
  ·intro W hSw
   have s2:=hSw.2
   go_simp
  refine wpAnyH_take (i:=3) (v:=.pointer (some ⟨x,0,none⟩)) rfl (by kernel_rfl) (by kernel_rfl) (by kernel_rfl) (fun _ _ _ h=>h) (Or.inl ⟨by rfl,?_⟩) hHeld ?_
  ·intro W hSw
   have s2:=hSw.2
   go_simp
  refine wpAnyH_take (i:=4) (v:=.slice ra R.length rc) rfl (by kernel_rfl) (by kernel_rfl) (by kernel_rfl) (fun _ _ _ h=>h) (Or.inl ⟨by rfl,?_⟩) hHeld ?_
  ·intro W hSw
   have s2:=hSw.2
   go_simp
  refine wpAnyH_take (i:=5) (v:=.agg cl.toArray) rfl (by kernel_rfl) (by kernel_rfl) (by kernel_rfl) (fun _ _ _ h=>h) (yieldsIf_load_mid (by rfl) 139 _ rfl (w1.heap.size) 0 rfl cl _ (fun W hSw=>hSw.1) Tryz.underlying139 rfl hinf) hHeld ?_
  refine wpAnyH_take (i:=6) (v:=.int .i64 fuel) rfl (by kernel_rfl) (by kernel_rfl) (by kernel_rfl) (fun _ _ _ h=>h) (Or.inl ⟨by rfl,?_⟩) hHeld ?_
  ·intro W hSw
   have s2:=hSw.2
   go_simp
  refine wpAnyH_ready (rs:=[7]) (by kernel_rfl) (by simp) ?_
  refine AllReadyH.cons (o:=_) rfl (fun K hK=>?_) AllReadyH.nil
  go_simp
  go_at_call 66
  refine (HRUN.out _ cl (al HG2.out 1) HSC.out).mono ?_
  rintro e w3 ⟨rfl,hpost⟩
  obtain⟨mm,hrat⟩:=hpost
  have hblt:w1.heap.size<W2.heap.size:=by
   have hc:=HR2.out 0 (cl[0]'(by omega)) (List.getElem?_eq_getElem (by omega))
   exact World.block_lt_of_cell? W2 _ hc
  have hbk:w3.heap[w1.heap.size]?=W2.heap[w1.heap.size]?:=hrat.chg.fr.block _ hblt (fun hm=>by
   have hsz:=HG2.out.size
   rcases List.mem_cons.mp hm with e|e
   ·omega
   ·have:=HGM.out _ e
    omega)
  have hr3:w3.rangeAt w1.heap.size 0 cl:=fun j v hv=>by
   have:=HR2.out j v hv
   simp only[World.cell?] at this ⊢
   rw[hbk]
   exact this
  have hx3:w3.cell? ⟨x,0,none⟩=some (.slice ra R.length rc):=(hrat.chg.cell 0 (.inl (by omega))).trans HX2.out
  have HRAT:Hid (fK x (3+k*244) G rr.2.1 rr.2.2 mm w' w3):=af (hrat.since HG2.out ⟨rfl,rfl,rfl,rfl⟩ hxl)
  clear hrat hbk
  go_wp2_with fail
  refine hK.out _ _ ⟨hr3,hx3⟩ (fun hHeld2=>?_)
  clear hK K hHeld
  refine wpAnyH_take (i:=8) (v:=.tuple #[.int .i64 rr.1.1,.int .i64 rr.1.2]) rfl (by kernel_rfl) (by kernel_rfl) (by kernel_rfl) (fun _ _ _ h=>h) (Or.inl ⟨by rfl,?_⟩) hHeld2 ?_
  ·intro W hSw
   have s2:=hSw.2
   go_simp
  refine wpAnyH_take (i:=9) (v:=.int .i64 rr.1.1) rfl (by kernel_rfl) (by kernel_rfl) (by kernel_rfl) (fun _ _ _ h=>h) (Or.inl ⟨by rfl,?_⟩) hHeld2 ?_
  ·intro W hSw
   have s2:=hSw.2
   go_simp
  refine wpAnyH_take (i:=10) (v:=.int .i64 rr.1.2) rfl (by kernel_rfl) (by kernel_rfl) (by kernel_rfl) (fun _ _ _ h=>h) (Or.inl ⟨by rfl,?_⟩) hHeld2 ?_
  ·intro W hSw
   have s2:=hSw.2
   go_simp
  refine wpAnyH_take (i:=11) (v:=.int .i64 rr.1.1) rfl (by kernel_rfl) (by kernel_rfl) (by kernel_rfl) (fun _ _ _ h=>h) (Or.inl ⟨by rfl,?_⟩) hHeld2 ?_
  ·intro W hSw
   have s2:=hSw.2
   go_simp
  refine wpAnyH_take (i:=12) (v:=.int .i64 rr.1.2) rfl (by kernel_rfl) (by kernel_rfl) (by kernel_rfl) (fun _ _ _ h=>h) (Or.inl ⟨by rfl,?_⟩) hHeld2 ?_
  ·intro W hSw
   have s2:=hSw.2
   go_simp
  refine wpAnyH_done (by kernel_rfl) ?_ _
  clear hHeld2
  go_wp2_with fail
  go_ret3
  exact⟨rfl,mm,HRAT.out⟩
 ·have HR2:=af (World.rangeAt_setCells_same _ w'.heap.size 0 cl (by rw[hcl];exact HthB))
  have HG2:Hid (w'.grownBy (w1.setCells w'.heap.size 0 cl) none):=af (cy (Nat.le_refl _) _ _ (ae (by first|exact al (ab (ag _ _) _) 1|exact ab (al (ag _ _) 1) _) hg1))
  clear HthA HthB hg1
  generalize w1.setCells w'.heap.size 0 cl=W2 at HR2 HG2 ⊢
  have HX2:=af (am HG2.out HX0.out)
  go_wp2_with fail
  refine wp_region_held_drew (S:=fun W=>W.rangeAt w'.heap.size 0 cl∧W.cell? ⟨x,0,none⟩=some (.slice ra R.length rc)) (by kernel_rfl) ⟨HR2.out,HX2.out⟩ (fun hHeld=>?_)
  refine wpAnyH_take (i:=0) (v:=.pointer (some ⟨x,3+k*244,none⟩)) rfl (by kernel_rfl) (by kernel_rfl) (by kernel_rfl) (fun _ _ _ h=>h) (Or.inl ⟨by rfl,?_⟩) hHeld ?_
  ·intro W hSw
   have s2:=hSw.2
   go_simp
  refine wpAnyH_take (i:=1) (v:=.pointer (some ⟨x,0,none⟩)) rfl (by kernel_rfl) (by kernel_rfl) (by kernel_rfl) (fun _ _ _ h=>h) (Or.inl ⟨by rfl,?_⟩) hHeld ?_
  ·intro W hSw
   have s2:=hSw.2
   go_simp
  refine wpAnyH_take (i:=2) (v:=.pointer (some ⟨x,0,none⟩)) rfl (by kernel_rfl) (by kernel_rfl) (by kernel_rfl) (fun _ _ _ h=>h) (Or.inl ⟨by rfl,?_⟩) hHeld ?_
  ·intro W hSw
   have s2:=hSw.2
   go_simp
  refine wpAnyH_take (i:=3) (v:=.pointer (some ⟨x,0,none⟩)) rfl (by kernel_rfl) (by kernel_rfl) (by kernel_rfl) (fun _ _ _ h=>h) (Or.inl ⟨by rfl,?_⟩) hHeld ?_
  ·intro W hSw
   have s2:=hSw.2
   go_simp
  refine wpAnyH_take (i:=4) (v:=.slice ra R.length rc) rfl (by kernel_rfl) (by kernel_rfl) (by kernel_rfl) (fun _ _ _ h=>h) (Or.inl ⟨by rfl,?_⟩) hHeld ?_
  ·intro W hSw
   have s2:=hSw.2
   go_simp
  refine wpAnyH_take (i:=5) (v:=.agg cl.toArray) rfl (by kernel_rfl) (by kernel_rfl) (by kernel_rfl) (fun _ _ _ h=>h) (yieldsIf_load_mid (by rfl) 139 _ rfl (w'.heap.size) 0 rfl cl _ (fun W hSw=>hSw.1) Tryz.underlying139 rfl hinf) hHeld ?_
  refine wpAnyH_take (i:=6) (v:=.int .i64 fuel) rfl (by kernel_rfl) (by kernel_rfl) (by kernel_rfl) (fun _ _ _ h=>h) (Or.inl ⟨by rfl,?_⟩) hHeld ?_
  ·intro W hSw
   have s2:=hSw.2
   go_simp
  refine wpAnyH_ready (rs:=[7]) (by kernel_rfl) (by simp) ?_
  refine AllReadyH.cons (o:=_) rfl (fun K hK=>?_) AllReadyH.nil
  go_simp
  go_at_call 66
  refine (HRUN.out _ cl (al HG2.out 1) HSC.out).mono ?_
  rintro e w3 ⟨rfl,hpost⟩
  obtain⟨mm,hrat⟩:=hpost
  have hblt:w'.heap.size<W2.heap.size:=by
   have hc:=HR2.out 0 (cl[0]'(by omega)) (List.getElem?_eq_getElem (by omega))
   exact World.block_lt_of_cell? W2 _ hc
  have hbk:w3.heap[w'.heap.size]?=W2.heap[w'.heap.size]?:=hrat.chg.fr.block _ hblt (fun hm=>by
   have hsz:=HG2.out.size
   rcases List.mem_cons.mp hm with e|e
   ·omega
   ·have:=HGM.out _ e
    omega)
  have hr3:w3.rangeAt w'.heap.size 0 cl:=fun j v hv=>by
   have:=HR2.out j v hv
   simp only[World.cell?] at this ⊢
   rw[hbk]
   exact this
  have hx3:w3.cell? ⟨x,0,none⟩=some (.slice ra R.length rc):=(hrat.chg.cell 0 (.inl (by omega))).trans HX2.out
  have HRAT:Hid (fK x (3+k*244) G rr.2.1 rr.2.2 mm w' w3):=af (hrat.since HG2.out ⟨rfl,rfl,rfl,rfl⟩ hxl)
  clear hrat hbk
  go_wp2_with fail
  refine hK.out _ _ ⟨hr3,hx3⟩ (fun hHeld2=>?_)
  clear hK K hHeld
  refine wpAnyH_take (i:=8) (v:=.tuple #[.int .i64 rr.1.1,.int .i64 rr.1.2]) rfl (by kernel_rfl) (by kernel_rfl) (by kernel_rfl) (fun _ _ _ h=>h) (Or.inl ⟨by rfl,?_⟩) hHeld2 ?_
  ·intro W hSw
   have s2:=hSw.2
   go_simp
  refine wpAnyH_take (i:=9) (v:=.int .i64 rr.1.1) rfl (by kernel_rfl) (by kernel_rfl) (by kernel_rfl) (fun _ _ _ h=>h) (Or.inl ⟨by rfl,?_⟩) hHeld2 ?_
  ·intro W hSw
   have s2:=hSw.2
   go_simp
  refine wpAnyH_take (i:=10) (v:=.int .i64 rr.1.2) rfl (by kernel_rfl) (by kernel_rfl) (by kernel_rfl) (fun _ _ _ h=>h) (Or.inl ⟨by rfl,?_⟩) hHeld2 ?_
  ·intro W hSw
   have s2:=hSw.2
   go_simp
  refine wpAnyH_take (i:=11) (v:=.int .i64 rr.1.1) rfl (by kernel_rfl) (by kernel_rfl) (by kernel_rfl) (fun _ _ _ h=>h) (Or.inl ⟨by rfl,?_⟩) hHeld2 ?_
  ·intro W hSw
   have s2:=hSw.2
   go_simp
  refine wpAnyH_take (i:=12) (v:=.int .i64 rr.1.2) rfl (by kernel_rfl) (by kernel_rfl) (by kernel_rfl) (fun _ _ _ h=>h) (Or.inl ⟨by rfl,?_⟩) hHeld2 ?_
  ·intro W hSw
   have s2:=hSw.2
   go_simp
  refine wpAnyH_done (by kernel_rfl) ?_ _
  clear hHeld2
  go_wp2_with fail
  go_ret3
  exact⟨rfl,mm,HRAT.out⟩
end Go.Proofs.YthlhbjnkohinmaaGreat
