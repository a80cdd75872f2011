import Derived.Test.YthlhbjnkohinmaaGreatP39
namespace Go.Proofs.YthlhbjnkohinmaaGreat
set_option maxRecDepth 100000
set_option maxHeartbeats 8000000
open Go.RowKit
theorem fI.since {b o:Nat}{G:List Nat}{S:aJ}{fm:Nat→Option Int}{m:Option Nat}{w0 W W' w:World}(h:fI b o G S fm m W' w)(hW:w0.grownBy W none)(hd:W'.heap=W.heap∧W'.os=W.os∧W'.tape=W.tape∧W'.output=W.output)(hb:b<w0.heap.size):fI b o G S fm m w0 w:=by
 obtain⟨d1,d2,d3,d4⟩:=hd
 have e:=hW.block b hb (by simp)
 have hf:=aK hW
 refine⟨h.ses,h.mar,⟨⟨h.chg.fr.os.trans (d2.trans hf.os),h.chg.fr.tape.trans (d3.trans hf.tape),h.chg.fr.output.trans (d4.trans hf.output),Nat.le_trans hf.size (by have:=h.chg.fr.size;rw[d1] at this;exact this),fun k hk hn=>?_⟩,fun i hi=>?_,fun hk=>?_⟩,h.ne,fun g hg=>?_⟩
 ·refine (h.chg.fr.block k (by rw[d1];exact Nat.lt_of_lt_of_le hk hf.size) hn).trans ?_
  rw[d1]
  exact hf.block k hk (by simp)
 ·refine (h.chg.cell i hi).trans ?_
  simp only[World.cell?,d1,e]
 ·exact h.chg.blk (by rw[d1];exact e.trans hk)
 ·rcases h.old g hg with h1|h1
  ·exact .inl h1
  ·rw[d1] at h1
   exact .inr (Nat.le_trans hf.size h1)
theorem Bn (x:Nat)(X:ap)(kv:Nat→Value)(n:Int)(k fuel:Nat)(fm:Nat→Option Int)(s:ByteArray)(R:List ay)(rv:Value)(B:Nat)(w:World)(h:ju w x X kv)(hR:oL w X kv)(hl:∀ c,c<60→(X.hist c).length≤9223372036854775807)(hf:aM X n=some k)(hM:jH (X.ses k).mks fm w)(hne:(X.ses k).mks≠some x)
  (hw:yt (X.ses k) (fun c=>aN (X.hist c) (X.ses k).snap)) (hsrc:X.src.1.1=rv) (hrl:∀ W,Fr (x::(X.ses k).mks.toList) w W→bP W B s rv R) (hRW:∀ r∈R,mj s r) (hA:∀ r∈R,(∀ p∈r.2.2,cT s p=true)∧r.2.2.length≤4) (hR9:R.length≤9) (hfu:fuel≤99) (hsn0:0≤(X.ses k).snap) (hmo:(X.ses k).snap+((X.ses k).made+100000)≤9223372036854775807) :
  Calls Tryz.prog 33 #[.pointer (some ⟨x,0,none⟩),.int .i64 n,.int .i64 fuel] w fun e w'=>e=.returned (.tuple #[.int .i64 (cU s R (fun c=>aN (X.hist c) (X.ses k).snap) fuel (X.ses k) fm).1.1,.int .i64 (cU s R (fun c=>aN (X.hist c) (X.ses k).snap) fuel (X.ses k) fm).1.2,.int .i64 0])∧∃ m,fI x (3+k*244) (X.ses k).mks.toList (cU s R (fun c=>aN (X.hist c) (X.ses k).snap) fuel (X.ses k) fm).2.1 (cU s R (fun c=>aN (X.hist c) (X.ses k).snap) fuel (X.ses k) fm).2.2 m w w':=by
 have HF:=af (eV x X n w h.ses)
 rw[hf] at HF
 have hk:k<8:=by
  unfold aM at hf
  split at hf
  ·cases hf
  ·exact (bx hf).1
 have c1:=(h.ses k hk).snap
 have hxl:=h.lt
 have hc0:=h.rules
 rw[hsrc] at hc0
 obtain⟨ra,rm,rc,rfl⟩:∃ a m c,rv=.slice a m c:=by
  obtain⟨xs,h1,_⟩:=hrl w (Fr.refl _ _)
  exact an h1
 have erm:rm=R.length:=by
  obtain⟨xs,h1,_⟩:=hrl w (Fr.refl _ _)
  exact au h1
 subst erm
 obtain⟨sn,hsn⟩:∃ sn,sn=(X.ses k).snap:=⟨_,rfl⟩
 rw[←hsn] at c1
 have HAT:Hid (∀ W,w.grownBy W none→Calls Tryz.prog 65 #[.pointer (some ⟨x,1955,none⟩),.int .i64 sn] W fun e w'=>(∃ sc,e=.returned (.agg sc)∧jl sc 60 (fun c=>aN (X.hist c) sn))∧W.grownBy w' none):=af (fun W hg=>yN x 1955 X kv sn W (h.grown hg).store (fun c hc=>jp hg (hR c hc)) hl)
 obtain⟨cs,hb⟩:=h.block
 have HRUN:Hid (∀ (W:World) (cl:List Value),w.grownBy W none→jl cl.toArray 60 (fun c=>aN (X.hist c) sn)→Calls Tryz.prog 66 #[.pointer (some ⟨x,3+k*244,none⟩),.slice ra R.length rc,.agg cl.toArray,.int .i64 fuel] W fun e w'=>e=.returned (.tuple #[.int .i64 (cU s R (fun c=>aN (X.hist c) (X.ses k).snap) fuel (X.ses k) fm).1.1,.int .i64 (cU s R (fun c=>aN (X.hist c) (X.ses k).snap) fuel (X.ses k) fm).1.2])∧∃ m,fI x (3+k*244) (X.ses k).mks.toList (cU s R (fun c=>aN (X.hist c) (X.ses k).snap) fuel (X.ses k) fm).2.1 (cU s R (fun c=>aN (X.hist c) (X.ses k).snap) fuel (X.ses k) fm).2.2 m W w'):=af (fun W cl hg hcl=>by
  rw[hsn] at hcl
  exact Dk x (3+k*244) (X.ses k) fm (fun c=>aN (X.hist c) (X.ses k).snap) cl s R ra rc B fuel W ((hg.block x hxl (by simp)).trans hb) ((h.grown hg).ses k hk) (hM.grown hg) hne hcl hw hRW hA hR9 (fun W2 hW2=>hrl W2 (((aK hg).mono (fun q hq=>by cases hq)).trans hW2)) hfu hsn0 hmo)
 obtain⟨hz,hzs⟩:=zero_of_info Tryz.zinfo139
 obtain⟨z,hzz⟩:∃ z,z=iQ:=⟨_,rfl⟩
 have hzsz:Hid (z.size=180):=af (by rw[hzz];exact ij)
 rw[←hzz] at hz
 have HZS:=af hzs
 have HX0:=af hc0
 have HGM0:Hid (∀ g∈(X.ses k).mks.toList,g<w.heap.size):=af (fun g hg=>by
  cases hm:(X.ses k).mks with
  |none=>rw[hm] at hg;cases hg
  |some g2=>
   rw[hm] at hg hM
   simp at hg
   rw[hg]
   obtain⟨Z,h1,_⟩:=hM
   exact lt_of_block h1)
 generalize hG:(X.ses k).mks.toList=G at HRUN HGM0 ⊢
 have HGM:=HGM0
 generalize hRR:cU s R (fun c=>aN (X.hist c) (X.ses k).snap) fuel (X.ses k) fm=rr at HRUN ⊢
 clear h hR hl hzz hzs hf hM hne hw hsrc hrl hRW hA hG hRR hmo hsn0 hsn hb
 have hxz:x≠w.heap.size:=by omega
 have hf0:(0:Int)≤(fuel:Int):=by omega
 have hf9:(fuel:Int)≤99:=by omega
 go_enter Tryz.func33,Tryz.ntmps33
 go_wp2_with fail
 go_at_call 41
 refine HF.out.mono ?_
 rintro e w' ⟨rfl,rfl⟩
 simp only[dk]
 go_wp2_with fail
 have hne:=World.new_ne w' ⟨x,3+k*244+1,none⟩ c1
 go_region_held3 (fun W=>W.cell? ⟨x,3+k*244+1,none⟩=some (.int .i64 sn)) (first|go_keep|(exact am hg1 (by assumption))|(rw[jB (by first|exact hxn1|exact hxz)];assumption)) (first
  |(go_at_call 65
    refine (HAT.out _ (by first|exact al (ag _ _) 1|exact al (ab (ag _ _) _) 1|exact ab (al (ag _ _) 1) _)).mono ?_
    rintro e w1 ⟨⟨sc,rfl,hsc⟩,hg1⟩
    obtain⟨cl,rfl⟩:∃ cl:List Value,sc=cl.toArray:=⟨sc.toList,by simp⟩
    have HSC:=af hsc
    have hcl:cl.length=180:=by have:=hsc.size;simpa using this
    have hinf:(Tryz.prog.info? 139).map (·.size)=some cl.length:=HZS.out.trans (by rw[hcl])
    have hone:∀ v∈cl,v.oneCell'=true:=fun v hv=>Array.all_eq_true_iff_forall_mem.1 hsc.one v (by simpa using hv)
    clear hsc
    have hxn1:x≠w1.heap.size:=by have:=hg1.size;simp at this;omega
    have HthA:(w1.alloc (.cells z 139)).there w1.heap.size 0 180:=rO w1 hzsz.out
    try (have HthB:w1.there w'.heap.size 0 180:=lA hzsz.out ((hg1.block w'.heap.size (by simp) (by simp)).trans (heap_alloc_new _ _)))))
 ·have HR2:=af (World.rangeAt_setCells_same _ w1.heap.size 0 cl (by rw[hcl];exact HthA))
  have HG2:Hid (w'.grownBy ((w1.alloc (.cells z 139)).setCells w1.heap.size 0 cl) none):=af (cw (by have:=hg1.size;simpa using this) _ _ (ab (cD (n:=1) hg1) _))
  have hs1:w'.heap.size≤w1.heap.size:=by have:=hg1.size;simpa using this
  clear HthA hg1
  generalize (w1.alloc (.cells z 139)).setCells w1.heap.size 0 cl=W2 at HR2 HG2 ⊢
  have HX2:=af (am HG2.out HX0.out)
  go_wp2_with fail
  refine wp_region_held_drew (S:=fun W=>W.rangeAt w1.heap.size 0 cl∧W.cell? ⟨x,0,none⟩=some (.slice ra R.length rc)) (by kernel_rfl) ⟨HR2.out,HX2.out⟩ (fun hHeld=>?_)
  refine wpAnyH_take (i:=0) (v:=.pointer (some ⟨x,3+k*244,none⟩)) rfl (by kernel_rfl) (by kernel_rfl) (by kernel_rfl) (fun _ _ _ h=>h) (Or.inl ⟨by rfl,?_⟩) hHeld ?_
  ·intro W hSw
   have s2:=hSw.2
   go_simp
  refine wpAnyH_take (i:=1) (v:=.pointer (some ⟨x,0,none⟩)) rfl (by kernel_rfl) (by kernel_rfl) (by kernel_rfl) (fun _ _ _ h=>h) (Or.inl ⟨by rfl,?_⟩) hHeld ?_
  ·intro W hSw
   have s2:=hSw.2
   go_simp
  refine wpAnyH_take (i:=2) (v:=.pointer (some ⟨x,0,none⟩)) rfl (by kernel_rfl) (by kernel_rfl) (by kernel_rfl) (fun _ _ _ h=>h) (Or.inl ⟨by rfl,?_⟩) hHeld ?_
  ·intro W hSw
   have s2:=hSw.2
   go_simp
  refine wpAnyH_take (i:=3) (v:=.pointer (some ⟨x,0,none⟩)) rfl (by kernel_rfl) (by kernel_rfl) (by kernel_rfl) (fun _ _ _ h=>h) (Or.inl ⟨by rfl,?_⟩) hHeld ?_
  ·intro W hSw
   have s2:=hSw.2
   go_simp
  refine wpAnyH_take (i:=4) (v:=.slice ra R.length rc) rfl (by kernel_rfl) (by kernel_rfl) (by kernel_rfl) (fun _ _ _ h=>h) (Or.inl ⟨by rfl,?_⟩) hHeld ?_
  ·intro W hSw
   have s2:=hSw.2
   go_simp
  refine wpAnyH_take (i:=5) (v:=.agg cl.toArray) rfl (by kernel_rfl) (by kernel_rfl) (by kernel_rfl) (fun _ _ _ h=>h) (yieldsIf_load_mid (by rfl) 139 _ rfl (w1.heap.size) 0 rfl cl _ (fun W hSw=>hSw.1) Tryz.underlying139 rfl hinf) hHeld ?_
  refine wpAnyH_take (i:=6) (v:=.int .i64 fuel) rfl (by kernel_rfl) (by kernel_rfl) (by kernel_rfl) (fun _ _ _ h=>h) (Or.inl ⟨by rfl,?_⟩) hHeld ?_
  ·intro W hSw
   have s2:=hSw.2
   go_simp
  refine wpAnyH_ready (rs:=[7]) (by kernel_rfl) (by simp) ?_
  refine AllReadyH.cons (o:=_) rfl (fun K hK=>?_) AllReadyH.nil
  go_simp
  go_at_call 66
  refine (HRUN.out _ cl (al HG2.out 1) HSC.out).mono ?_
  rintro e w3 ⟨rfl,hpost⟩
  obtain⟨mm,hrat⟩:=hpost
  have hblt:w1.heap.size<W2.heap.size:=by
   have hc:=HR2.out 0 (cl[0]'(by omega)) (List.getElem?_eq_getElem (by omega))
   exact World.block_lt_of_cell? W2 _ hc
  have hbk:w3.heap[w1.heap.size]?=W2.heap[w1.heap.size]?:=hrat.chg.fr.block _ hblt (fun hm=>by
   have hsz:=HG2.out.size
   rcases List.mem_cons.mp hm with e|e
   ·omega
   ·have:=HGM.out _ e
    omega)
  have hr3:w3.rangeAt w1.heap.size 0 cl:=fun j v hv=>by
   have:=HR2.out j v hv
   simp only[World.cell?] at this ⊢
   rw[hbk]
   exact this
  have hx3:w3.cell? ⟨x,0,none⟩=some (.slice ra R.length rc):=(hrat.chg.cell 0 (.inl (by omega))).trans HX2.out
  have HRAT:Hid (fI x (3+k*244) G rr.2.1 rr.2.2 mm w' w3):=af (hrat.since HG2.out ⟨rfl,rfl,rfl,rfl⟩ hxl)
  clear hrat hbk
  go_wp2_with fail
  refine hK.out _ _ ⟨hr3,hx3⟩ (fun hHeld2=>?_)
  clear hK K hHeld
  refine wpAnyH_take (i:=8) (v:=.tuple #[.int .i64 rr.1.1,.int .i64 rr.1.2]) rfl (by kernel_rfl) (by kernel_rfl) (by kernel_rfl) (fun _ _ _ h=>h) (Or.inl ⟨by rfl,?_⟩) hHeld2 ?_
  ·intro W hSw
   have s2:=hSw.2
   go_simp
  refine wpAnyH_take (i:=9) (v:=.int .i64 rr.1.1) rfl (by kernel_rfl) (by kernel_rfl) (by kernel_rfl) (fun _ _ _ h=>h) (Or.inl ⟨by rfl,?_⟩) hHeld2 ?_
  ·intro W hSw
   have s2:=hSw.2
   go_simp
  refine wpAnyH_take (i:=10) (v:=.int .i64 rr.1.2) rfl (by kernel_rfl) (by kernel_rfl) (by kernel_rfl) (fun _ _ _ h=>h) (Or.inl ⟨by rfl,?_⟩) hHeld2 ?_
  ·intro W hSw
   have s2:=hSw.2
   go_simp
  refine wpAnyH_take (i:=11) (v:=.int .i64 rr.1.1) rfl (by kernel_rfl) (by kernel_rfl) (by kernel_rfl) (fun _ _ _ h=>h) (Or.inl ⟨by rfl,?_⟩) hHeld2 ?_
  ·intro W hSw
   have s2:=hSw.2
   go_simp
  refine wpAnyH_take (i:=12) (v:=.int .i64 rr.1.2) rfl (by kernel_rfl) (by kernel_rfl) (by kernel_rfl) (fun _ _ _ h=>h) (Or.inl ⟨by rfl,?_⟩) hHeld2 ?_
  ·intro W hSw
   have s2:=hSw.2
   go_simp
  refine wpAnyH_done (by kernel_rfl) ?_ _
  clear hHeld2
  go_wp2_with fail
  go_ret3
  exact⟨rfl,mm,HRAT.out⟩
 ·have HR2:=af (World.rangeAt_setCells_same _ w'.heap.size 0 cl (by rw[hcl];exact HthB))
  have HG2:Hid (w'.grownBy (w1.setCells w'.heap.size 0 cl) none):=af (cw (Nat.le_refl _) _ _ (ae (by first|exact al (ab (ag _ _) _) 1|exact ab (al (ag _ _) 1) _) hg1))
  clear HthA HthB hg1
  generalize w1.setCells w'.heap.size 0 cl=W2 at HR2 HG2 ⊢
  have HX2:=af (am HG2.out HX0.out)
  go_wp2_with fail
  refine wp_region_held_drew (S:=fun W=>W.rangeAt w'.heap.size 0 cl∧W.cell? ⟨x,0,none⟩=some (.slice ra R.length rc)) (by kernel_rfl) ⟨HR2.out,HX2.out⟩ (fun hHeld=>?_)
  refine wpAnyH_take (i:=0) (v:=.pointer (some ⟨x,3+k*244,none⟩)) rfl (by kernel_rfl) (by kernel_rfl) (by kernel_rfl) (fun _ _ _ h=>h) (Or.inl ⟨by rfl,?_⟩) hHeld ?_
  ·intro W hSw
   have s2:=hSw.2
   go_simp
  refine wpAnyH_take (i:=1) (v:=.pointer (some ⟨x,0,none⟩)) rfl (by kernel_rfl) (by kernel_rfl) (by kernel_rfl) (fun _ _ _ h=>h) (Or.inl ⟨by rfl,?_⟩) hHeld ?_
  ·intro W hSw
   have s2:=hSw.2
   go_simp
  refine wpAnyH_take (i:=2) (v:=.pointer (some ⟨x,0,none⟩)) rfl (by kernel_rfl) (by kernel_rfl) (by kernel_rfl) (fun _ _ _ h=>h) (Or.inl ⟨by rfl,?_⟩) hHeld ?_
  ·intro W hSw
   have s2:=hSw.2
   go_simp
  refine wpAnyH_take (i:=3) (v:=.pointer (some ⟨x,0,none⟩)) rfl (by kernel_rfl) (by kernel_rfl) (by kernel_rfl) (fun _ _ _ h=>h) (Or.inl ⟨by rfl,?_⟩) hHeld ?_
  ·intro W hSw
   have s2:=hSw.2
   go_simp
  refine wpAnyH_take (i:=4) (v:=.slice ra R.length rc) rfl (by kernel_rfl) (by kernel_rfl) (by kernel_rfl) (fun _ _ _ h=>h) (Or.inl ⟨by rfl,?_⟩) hHeld ?_
  ·intro W hSw
   have s2:=hSw.2
   go_simp
  refine wpAnyH_take (i:=5) (v:=.agg cl.toArray) rfl (by kernel_rfl) (by kernel_rfl) (by kernel_rfl) (fun _ _ _ h=>h) (yieldsIf_load_mid (by rfl) 139 _ rfl (w'.heap.size) 0 rfl cl _ (fun W hSw=>hSw.1) Tryz.underlying139 rfl hinf) hHeld ?_
  refine wpAnyH_take (i:=6) (v:=.int .i64 fuel) rfl (by kernel_rfl) (by kernel_rfl) (by kernel_rfl) (fun _ _ _ h=>h) (Or.inl ⟨by rfl,?_⟩) hHeld ?_
  ·intro W hSw
   have s2:=hSw.2
   go_simp
  refine wpAnyH_ready (rs:=[7]) (by kernel_rfl) (by simp) ?_
  refine AllReadyH.cons (o:=_) rfl (fun K hK=>?_) AllReadyH.nil
  go_simp
  go_at_call 66
  refine (HRUN.out _ cl (al HG2.out 1) HSC.out).mono ?_
  rintro e w3 ⟨rfl,hpost⟩
  obtain⟨mm,hrat⟩:=hpost
  have hblt:w'.heap.size<W2.heap.size:=by
   have hc:=HR2.out 0 (cl[0]'(by omega)) (List.getElem?_eq_getElem (by omega))
   exact World.block_lt_of_cell? W2 _ hc
  have hbk:w3.heap[w'.heap.size]?=W2.heap[w'.heap.size]?:=hrat.chg.fr.block _ hblt (fun hm=>by
   have hsz:=HG2.out.size
   rcases List.mem_cons.mp hm with e|e
   ·omega
   ·have:=HGM.out _ e
    omega)
  have hr3:w3.rangeAt w'.heap.size 0 cl:=fun j v hv=>by
   have:=HR2.out j v hv
   simp only[World.cell?] at this ⊢
   rw[hbk]
   exact this
  have hx3:w3.cell? ⟨x,0,none⟩=some (.slice ra R.length rc):=(hrat.chg.cell 0 (.inl (by omega))).trans HX2.out
  have HRAT:Hid (fI x (3+k*244) G rr.2.1 rr.2.2 mm w' w3):=af (hrat.since HG2.out ⟨rfl,rfl,rfl,rfl⟩ hxl)
  clear hrat hbk
  go_wp2_with fail
  refine hK.out _ _ ⟨hr3,hx3⟩ (fun hHeld2=>?_)
  clear hK K hHeld
  refine wpAnyH_take (i:=8) (v:=.tuple #[.int .i64 rr.1.1,.int .i64 rr.1.2]) rfl (by kernel_rfl) (by kernel_rfl) (by kernel_rfl) (fun _ _ _ h=>h) (Or.inl ⟨by rfl,?_⟩) hHeld2 ?_
  ·intro W hSw
   have s2:=hSw.2
   go_simp
  refine wpAnyH_take (i:=9) (v:=.int .i64 rr.1.1) rfl (by kernel_rfl) (by kernel_rfl) (by kernel_rfl) (fun _ _ _ h=>h) (Or.inl ⟨by rfl,?_⟩) hHeld2 ?_
  ·intro W hSw
   have s2:=hSw.2
   go_simp
  refine wpAnyH_take (i:=10) (v:=.int .i64 rr.1.2) rfl (by kernel_rfl) (by kernel_rfl) (by kernel_rfl) (fun _ _ _ h=>h) (Or.inl ⟨by rfl,?_⟩) hHeld2 ?_
  ·intro W hSw
   have s2:=hSw.2
   go_simp
  refine wpAnyH_take (i:=11) (v:=.int .i64 rr.1.1) rfl (by kernel_rfl) (by kernel_rfl) (by kernel_rfl) (fun _ _ _ h=>h) (Or.inl ⟨by rfl,?_⟩) hHeld2 ?_
  ·intro W hSw
   have s2:=hSw.2
   go_simp
  refine wpAnyH_take (i:=12) (v:=.int .i64 rr.1.2) rfl (by kernel_rfl) (by kernel_rfl) (by kernel_rfl) (fun _ _ _ h=>h) (Or.inl ⟨by rfl,?_⟩) hHeld2 ?_
  ·intro W hSw
   have s2:=hSw.2
   go_simp
  refine wpAnyH_done (by kernel_rfl) ?_ _
  clear hHeld2
  go_wp2_with fail
  go_ret3
  exact⟨rfl,mm,HRAT.out⟩
theorem As (x:Nat)(X:ap)(kv:Nat→Value)(n fuel:Int)(w:World)(h:ju w x X kv)(hf:aM X n=none):
  Calls Tryz.prog 33 #[.pointer (some ⟨x,0,none⟩),.int .i64 n,.int .i64 fuel] w fun e w'=>e=.returned (.tuple #[.int .i64 0,.int .i64 0,.int .i64 6])∧w.grownBy w' none:=by
 have HF:=af (eV x X n w h.ses)
 rw[hf] at HF
 clear h hf
 go_enter Tryz.func33,Tryz.ntmps33
 go_wp2_with fail
 go_at_call 41
 refine HF.out.mono ?_
 rintro e w' ⟨rfl,rfl⟩
 simp only[dk]
 go_wp2
 go_ret3
 exact⟨rfl,ag _ _⟩
theorem zZ (x:Nat)(X:ap)(kv:Nat→Value)(n fuel:Int)(k:Nat)(w:World)(h:ju w x X kv)(hf:aM X n=some k)(hfu:fuel<0∨99<fuel):
  Calls Tryz.prog 33 #[.pointer (some ⟨x,0,none⟩),.int .i64 n,.int .i64 fuel] w fun e w'=>e=.returned (.tuple #[.int .i64 0,.int .i64 0,.int .i64 9])∧w.grownBy w' none:=by
 have HF:=af (eV x X n w h.ses)
 rw[hf] at HF
 clear h hf
 by_cases h0:fuel<0
 ·clear hfu
  go_enter Tryz.func33,Tryz.ntmps33
  go_wp2_with fail
  go_at_call 41
  refine HF.out.mono ?_
  rintro e w' ⟨rfl,rfl⟩
  simp only[dk]
  go_wp2_with fail
  go_ret3
  exact⟨rfl,ag _ _⟩
 ·have h1:99<fuel:=by omega
  have h2:0≤fuel:=by omega
  clear hfu h0
  go_enter Tryz.func33,Tryz.ntmps33
  go_wp2_with fail
  go_at_call 41
  refine HF.out.mono ?_
  rintro e w' ⟨rfl,rfl⟩
  simp only[dk]
  go_wp2_with fail
  go_ret3
  exact⟨rfl,ag _ _⟩
end Go.Proofs.YthlhbjnkohinmaaGreat
