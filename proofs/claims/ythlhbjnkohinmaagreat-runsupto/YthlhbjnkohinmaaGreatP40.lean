import Derived.Test.YthlhbjnkohinmaaGreatP39
import Derived.Test.YthlhbjnkohinmaaGreatP38
namespace Go.Proofs.YthlhbjnkohinmaaGreat
set_option maxRecDepth 100000
set_option maxHeartbeats 8000000
open Go.RowKit
def ap.setHist (X:ap) (c:Nat) (l:gt):ap:={ X with hist:=cH X.hist c l }
theorem jq.setKept {w:World} {x:Nat} {X:ap} {kv:Nat→Value} {cs:Array Value} (h:jq w x X kv) (hb:w.heap[x]?=some (.cells cs 91 (0,0))) {w':World} {c:Nat} (hc:c<60) (nv:Value)
  (hb':w'.heap[x]?=some (.cells (cs.setIfInBounds (1955+1+c*2+1) nv) 91 (0,0))) (l:gt) :
  jq w' x (X.setHist c l) (cH kv c nv):=by
 have e0:∀ i v,w.cell? ⟨x,i,none⟩=some v→cs[i]?=some v:=fun i v hv=>by rw[cell_of_row _ _ _ _ _ _ hb] at hv;exact hv
 have far:∀ i v,i≠1955+1+c*2+1→w.cell? ⟨x,i,none⟩=some v→w'.cell? ⟨x,i,none⟩=some v:=fun i v h2 hv=>by
  rw[cell_of_row _ _ _ _ _ _ hb',Array.getElem?_setIfInBounds_ne (fun e=>h2 e.symm)]
  exact e0 i v hv
 have hsz:1955+1+c*2+1<cs.size:=(Array.getElem?_eq_some_iff.mp (e0 _ _ (h.store.kept c hc))).1
 refine⟨⟨_,hb'⟩,far _ _ (by omega) h.rules,far _ _ (by omega) h.room,far _ _ (by omega) h.opened,fun k hk=>?_,⟨far _ _ (by omega) h.store.latest,fun d hd=>far _ _ (by omega) (h.store.last d hd),fun d hd=>?_⟩⟩
 ·have hs:=h.ses k hk
  exact⟨far _ _ (by omega) hs.num,far _ _ (by omega) hs.snap,far _ _ (by omega) hs.cnt,fun d hd=>far _ _ (by omega) (hs.made d hd),fun d hd=>far _ _ (by omega) (hs.filled d hd),fun d hd=>far _ _ (by omega) (hs.val d hd),fun d hd=>far _ _ (by omega) (hs.tm d hd),far _ _ (by omega) hs.mks,hs.ok⟩
 ·by_cases e:d=c
  ·subst e
   rw[aW,cell_of_row _ _ _ _ _ _ hb',Array.getElem?_setIfInBounds_self_of_lt hsz]
  ·rw[bE _ _ _ e]
   exact far _ _ (by omega) (h.store.kept d hd)
theorem cL.comp {P:eV} {f f1:List Nat} {w w1 w2:World} (s1:∀ x∈f1,x∈f∨w.heap.size≤x) (r1:Fr f w w1) (k:cL P f1 w1 w2):cL P f w w2:=by
 obtain⟨f2,a2,n2,s2,r2⟩:=k
 refine⟨f2,a2,n2,fun x hx=>?_,sS r1 r2 s1⟩
 rcases s2 x hx with h|h
 ·exact s1 x h
 ·exact .inr (Nat.le_trans r1.size h)
theorem wE (x:Nat) (X:ap) (f:List Nat) (c:Nat) (t:Int) (w:World) (hc:c<60) (h:aV x X w f) (hn:f.Nodup) (hl:((X.hist c).length+1)*24≤140737488355328) :
  Calls Tryz.prog 100 #[.pointer (some ⟨x,1955+1+c*2,none⟩),.int .i64 t] w fun e w'=>e=.returned (.int .i64 (((X.hist c).length:Int) - ((dx (X.hist c) t).length:Int)))∧cL (aV x (X.setHist c (dx (X.hist c) t))) f w w':=by
 have hwi:=aV.within _ _ h
 obtain⟨kv,hP,f2,hE,rfl⟩:=h
 obtain⟨cs,hb⟩:=hP.block
 have hkc:=hP.store.kept c hc
 have hlen1:c<((List.range 60).map kv).length:=by simpa using hc
 have hlen2:c<((List.range 60).map X.hist).length:=by simpa using hc
 obtain⟨fa,g,fb,hh,e2,hput⟩:=aA.focus ic.framed hE c hlen1 hlen2
 subst e2
 simp only[List.getElem_map,List.getElem_range] at hh
 obtain⟨hrow,rfl⟩:=hh
 obtain⟨a,m,cp,hkv⟩:=an hrow
 rw[hkv] at hrow hkc hn hwi
 have em:=ar hrow
 subst em
 have hxl:=lt_of_block hb
 refine (vN x (1955+1+c*2) (X.hist c) t a cp cs 91 w hl hb hkc hrow).mono ?_
 rintro e w' ⟨rfl,v,w3,hown3,hg3,rfl⟩
 refine⟨rfl,?_⟩
 have hb3:w3.heap[x]?=some (.cells cs 91 (0,0)):=(hg3.block x hxl (by simp)).trans hb
 have hb4:(w3.setCell ⟨x,1955+1+c*2+1,none⟩ v).heap[x]?=some (.cells (cs.setIfInBounds (1955+1+c*2+1) v) 91 (0,0)):=ah hb3 _ _
 have hP':=hP.setKept hb hc v hb4 (dx (X.hist c) t)
 have hfr4:Fr [x] w (w3.setCell ⟨x,1955+1+c*2+1,none⟩ v):=((aJ hg3).mono (fun k hk=>by cases hk)).set (.inl (by simp)) _
 have hnew:∀ k∈v.ownBlock.toList,w.heap.size≤k:=fun k hk=>by
  cases hv:v.ownBlock with
  |none=>rw[hv] at hk;cases hk
  |some g2=>
   rw[hv] at hk
   simp at hk
   rw[hk]
   exact (hown3.lt g2 hv).1
 have hn2:((x::fa)++((Value.slice a (X.hist c).length cp).ownBlock.toList++fb)).Nodup:=by simpa using hn
 have hdis:∀ k,k∈fa∨k∈fb→k∉[x]:=by
  intro k hk hk2
  rw[List.mem_singleton] at hk2
  subst hk2
  rw[List.cons_append,List.nodup_cons] at hn2
  rcases hk with h|h
  ·exact hn2.1 (by simp[h])
  ·exact hn2.1 (by simp[h])
 have hH:ic v (dx (X.hist c) t) (w3.setCell ⟨x,1955+1+c*2+1,none⟩ v) v.ownBlock.toList:=by
  refine⟨?_,rfl⟩
  exact ownsRow_setCell_other (bO hown3 (Nat.zero_le _)) (aS hown3 hb3 (by decide)) _
 have hE':=hput _ _ _ _ _ hH hfr4 (fun k hk=>hdis k (.inl hk)) (fun k hk=>hdis k (.inr hk))
 refine⟨x::(fa++(v.ownBlock.toList++fb)),⟨_,hP',_,?_,rfl⟩,?_,?_,?_⟩
 ·show aA ic ((List.range 60).map (cH kv c _)) ((List.range 60).map (cH X.hist c _)) _ _
  rw[gT,gT]
  exact hE'
 ·have:=eb (fa:=x::fa) (g:=(Value.slice a (X.hist c).length cp).ownBlock.toList) (g':=v.ownBlock.toList) (fb:=fb) (N:=w.heap.size) hn2 (fun k hk=>hwi k (by simpa using hk)) (by cases v.ownBlock <;> simp) (fun k hk=>.inr (hnew k hk))
  simpa using this
 ·intro k hk
  rw[hkv]
  have:=hnew k
  simp only[List.mem_cons,List.mem_append] at hk ⊢
  grind
 ·rw[hkv]
  exact hfr4.mono (fun k hk=>.inl (by simp only[List.mem_cons,List.mem_append,List.not_mem_nil,or_false] at hk ⊢;grind))
def gH (X:ap) (t:Int) (k:Nat):ap:={ X with hist:=fun c=>if c<k then dx (X.hist c) t else X.hist c }
theorem vj (X:ap) (t:Int) (k:Nat):gH X t (k+1)=(gH X t k).setHist k (dx ((gH X t k).hist k) t):=by
 unfold gH ap.setHist
 congr 1
 funext c
 by_cases e:c=k
 ·subst e;simp[cH]
 ·have:(c<k+1)=(c<k):=by apply propext;omega
  simp only[this,cH,e,if_false]
theorem r6 (X:ap) (t:Int) (k:Nat):(gH X t k).hist k=X.hist k:=by simp[gH]
theorem xQ {x:Nat} {X:ap} {t:Int} {w:World} {f:List Nat} (h:aV x (gH X t 60) w f):aV x (X.swept t) w f:=
 h.congr rfl rfl rfl rfl (fun _ _=>rfl) (fun c hc=>by simp[gH,ap.swept,hc])
theorem vu {x:Nat} {X:ap} {t:Int} {w:World} {f:List Nat} (h:aV x X w f):aV x (gH X t 0) w f:=
 h.congr rfl rfl rfl rfl (fun _ _=>rfl) (fun c hc=>by simp[gH])
def jS (X:ap) (t:Int) (k:Nat):Int:=(keptN X k:Int) - (keptN (X.swept t) k:Int)
theorem xj (X:ap) (t:Int) (k:Nat):jS X t (k+1)=jS X t k+(((X.hist k).length:Int) - ((dx (X.hist k) t).length:Int)):=by
 have h1:keptN X (k+1)=keptN X k+(X.hist k).length:=rfl
 have h2:keptN (X.swept t) (k+1)=keptN (X.swept t) k+(dx (X.hist k) t).length:=rfl
 unfold jS
 omega
theorem C9 (X:ap) (t:Int) (k:Nat):0≤jS X t k∧jS X t k≤keptN X k:=by
 have:=gV X t k
 unfold jS
 omega
theorem wU (x:Nat) (X:ap) (t:Int) (f:List Nat) (w:World) (h:aV x X w f) (hn:f.Nodup) (hl:∀ c,c<60→((X.hist c).length+1)*24≤140737488355328) (hm:keptN X 60≤9223372036854775807) :
  Calls Tryz.prog 71 #[.pointer (some ⟨x,1955,none⟩),.int .i64 t] w fun e w'=>e=.returned (.int .i64 (jS X t 60))∧cL (aV x (X.swept t)) f w w':=by
 have HST:Hid (cL (aV x (gH X t 0)) f w w):=af ⟨f,vu h,hn,fun _ hx=>.inl hx,Fr.refl _ _⟩
 have HHL:=af hl
 have HMO:Hid (∀ k,k≤60→0≤jS X t k∧jS X t k≤9223372036854775807):=af (fun k hk=>by
  have:=C9 X t k
  have:=jW X hk
  omega)
 have hxl:x<w.heap.size:=aV.within _ _ h x (by obtain⟨_,_,_,_,rfl⟩:=h;simp)
 clear h hn hl hm
 go_enter Tryz.func71,Tryz.ntmps71
 go_wp2_with fail
 go_loopw [5,6] (fun d i wr=>∃ k:Nat,k≤60∧i=.int .i64 k∧d=.int .i64 (jS X t k)∧cL (aV x (gH X t k)) f w wr) (fun _ i _=>60 - (intOf i).toNat)
 case atStart=>exact⟨0,by omega,rfl,rfl,HST.out⟩
 case round=>
  obtain⟨k,hk,rfl,rfl,hat⟩:=hrel
  have HATO:=af hat
  clear hat
  by_cases hlt:k<60
  ·have HCALL:Hid (Calls Tryz.prog 100 #[.pointer (some ⟨x,1955+1+k*2,none⟩),.int .i64 t] wr fun e w'=>e=.returned (.int .i64 (((X.hist k).length:Int) - ((dx (X.hist k) t).length:Int)))∧cL (aV x (gH X t (k+1))) f w w'):=af (by
    obtain⟨f1,a1,n1,s1,r1⟩:=HATO.out
    refine (wE x (gH X t k) f1 k t wr hlt a1 n1 (by rw[r6];exact HHL.out k hlt)).mono ?_
    rintro e w' ⟨rfl,ht⟩
    rw[←vj] at ht
    exact⟨by rw[r6],cL.comp s1 r1 ht⟩)
   have HSU:=af (xj X t k)
   have hm0:=HMO.out k hk
   have hm1:=HMO.out (k+1) (by omega)
   rw[HSU.out] at hm1
   have hxr:x<wr.heap.size:=by
    obtain⟨_,_,_,_,r1⟩:=HATO.out
    exact Nat.lt_of_lt_of_le hxl r1.size
   obtain⟨d0,hd0⟩:∃ d0,d0=jS X t k:=⟨_,rfl⟩
   obtain⟨d1,hd1⟩:∃ d1,d1=((X.hist k).length:Int) - ((dx (X.hist k) t).length:Int):=⟨_,rfl⟩
   rw[←hd0,←hd1] at hm1 HSU
   rw[←hd1] at HCALL
   rw[←hd0] at hm0 ⊢
   clear hd0 hd1
   go_wp2_with fail
   go_at_call 100
   refine HCALL.out.mono ?_
   rintro e w' ⟨rfl,ht⟩
   have HT:=af ht
   clear ht
   go_wp2_with fail
   go_roundw
   case rel=>exact⟨k+1,by omega,by go_num,by rw[HSU.out],HT.out⟩
   case measure=>simp[intOf];omega
  ·have e:k=60:=by omega
   subst e
   have HF:Hid (cL (aV x (X.swept t)) f w wr):=af (by
    obtain⟨f1,a1,n1,s1,r1⟩:=HATO.out
    exact⟨f1,xQ a1,n1,s1,r1⟩)
   go_wp2_with fail
   go_ret
   exact⟨rfl,HF.out⟩
theorem xe (x:Nat) (X:ap) (kv:Nat→Value) (w:World) (h:jq w x X kv) :
  Calls Tryz.prog 70 #[.pointer (some ⟨x,0,none⟩)] w fun e w'=>e=.returned (.int .i64 (cN X 8))∧w'=w:=by
 have HN:Hid (∀ k,k<8→w.cell? ⟨x,3+k*244,none⟩=some (.int .i64 (X.ses k).num)∧w.cell? ⟨x,3+k*244+1,none⟩=some (.int .i64 (X.ses k).snap)):=af (fun k hk=>⟨(h.ses k hk).num,(h.ses k hk).snap⟩)
 have c0:w.cell? ⟨x,1955,none⟩=some (.int .i64 (cN X 0)):=h.store.latest
 obtain⟨o0,ho0⟩:∃ o0,o0=cN X 0:=⟨_,rfl⟩
 rw[←ho0] at c0
 have HO0:=af ho0
 clear h ho0
 go_enter Tryz.func70,Tryz.ntmps70
 go_wp2_with fail
 go_loop [3,4] (fun t i=>∃ k:Nat,k≤8∧i=.int .i64 k∧t=.int .i64 (cN X k)) (fun _ i=>8 - (intOf i).toNat)
 case atStart=>exact⟨0,by omega,rfl,by rw[HO0.out]⟩
 case round=>
  obtain⟨k,hk,rfl,rfl⟩:=hrel
  by_cases hlt:k<8
  ·obtain⟨d0,d1⟩:=HN.out k hlt
   have HSU:Hid (cN X (k+1)=if 0<(X.ses k).num∧(X.ses k).snap<cN X k then (X.ses k).snap else cN X k):=af rfl
   obtain⟨nn,hnn⟩:∃ nn,nn=(X.ses k).num:=⟨_,rfl⟩
   obtain⟨sn,hsn⟩:∃ sn,sn=(X.ses k).snap:=⟨_,rfl⟩
   obtain⟨od,hod⟩:∃ od,od=cN X k:=⟨_,rfl⟩
   rw[←hnn,←hsn,←hod] at HSU
   rw[←hnn] at d0
   rw[←hsn] at d1
   rw[←hod]
   clear hnn hsn hod
   by_cases h1:0<nn
   ·by_cases h2:sn<od
    ·have HS2:Hid (cN X (k+1)=sn):=af (by rw[HSU.out,if_pos ⟨h1,h2⟩])
     go_wp2
     go_round
     case rel=>exact⟨k+1,by omega,by go_num,by rw[HS2.out]⟩
     case measure=>simp[intOf];omega
    ·have HS2:Hid (cN X (k+1)=od):=af (by rw[HSU.out,if_neg (fun h=>h2 h.2)])
     go_wp2
     go_round
     case rel=>exact⟨k+1,by omega,by go_num,by rw[HS2.out]⟩
     case measure=>simp[intOf];omega
   ·have HS2:Hid (cN X (k+1)=od):=af (by rw[HSU.out,if_neg (fun h=>h1 h.1)])
    go_wp2
    go_round
    case rel=>exact⟨k+1,by omega,by go_num,by rw[HS2.out]⟩
    case measure=>simp[intOf];omega
  ·have e:k=8:=by omega
   subst e
   go_wp2
   go_ret
   exact⟨rfl,rfl⟩
theorem pX (x:Nat) (X:ap) (f:List Nat) (w:World) (h:aV x X w f) (hn:f.Nodup) (hl:∀ c,c<60→((X.hist c).length+1)*24≤140737488355328) (hm:keptN X 60≤9223372036854775807) :
  Calls Tryz.prog 36 #[.pointer (some ⟨x,0,none⟩)] w fun e w'=>e=.returned (.int .i64 (ch X).1)∧cL (aV x (ch X).2) f w w':=by
 have HO:Hid (Calls Tryz.prog 70 #[.pointer (some ⟨x,0,none⟩)] w fun e w'=>e=.returned (.int .i64 (cN X 8))∧w'=w):=af (by
  obtain⟨kv,hk⟩:=h
  exact xe x X kv w hk.1)
 have HS:=af (wU x X (cN X 8) f w h hn hl hm)
 unfold ch
 have e1:(keptN X 60:Int) - (keptN (X.swept (cN X 8)) 60:Int)=jS X (cN X 8) 60:=rfl
 rw[e1]
 clear h hn hl hm e1
 generalize cN X 8=od at HO HS ⊢
 generalize jS X od 60=dr at HS ⊢
 go_enter Tryz.func36,Tryz.ntmps36
 go_wp2_with fail
 go_at_call 70
 refine HO.out.mono ?_
 rintro e w1 ⟨rfl,rfl⟩
 go_wp2_with fail
 go_at_call 71
 refine HS.out.mono ?_
 rintro e w2 ⟨rfl,ht⟩
 have HT:=af ht
 clear ht
 go_wp2_with fail
 go_ret
 exact⟨rfl,HT.out⟩
theorem zX (x:Nat) (X:ap) (f:List Nat) (w:World) (h:aV x X w f) (hm:keptN X 60≤9223372036854775807) :
  Calls Tryz.prog 35 #[.pointer (some ⟨x,0,none⟩)] w fun e w'=>e=.returned (.int .i64 (keptN X 60:Nat))∧w'=w:=by
 have HK:Hid (Calls Tryz.prog 69 #[.pointer (some ⟨x,1955,none⟩)] w fun e w'=>e=.returned (.int .i64 (keptN X 60:Nat))∧w'=w):=af (by
  obtain⟨kv,hk⟩:=h
  exact vE x 1955 X kv w hk.1.store hk.rows hm)
 clear h hm
 generalize keptN X 60=kn at HK ⊢
 go_enter Tryz.func35,Tryz.ntmps35
 go_wp2_with fail
 go_at_call 69
 refine HK.out.mono ?_
 rintro e w1 ⟨rfl,rfl⟩
 go_wp2_with fail
 go_ret
 exact⟨rfl,rfl⟩
theorem v9 (x:Nat) (X:ap) (f:List Nat) (m:Nat) (w:World) (h:aV x X w f) (hn:f.Nodup) (hl:∀ c,c<60→((X.hist c).length+1)*24≤140737488355328) (hm:keptN X 60+m≤9223372036854775807) :
  Calls Tryz.prog 56 #[.pointer (some ⟨x,0,none⟩),.int .i64 m] w fun e w'=>e=.returned (.bool (cK X m).1)∧cL (aV x (cK X m).2) f w w':=by
 have HK:Hid (Calls Tryz.prog 69 #[.pointer (some ⟨x,1955,none⟩)] w fun e w'=>e=.returned (.int .i64 (keptN X 60:Nat))∧w'=w):=af (by
  obtain⟨kv,hk⟩:=h
  exact vE x 1955 X kv w hk.1.store hk.rows (by omega))
 have HS:=af (pX x X f w h hn hl (by omega))
 have HPA:=af h
 have c1:w.cell? ⟨x,1,none⟩=some (.int .i64 X.room):=by
  obtain⟨kv,hk⟩:=h
  exact hk.1.room
 have HC2:Hid (∀ w',cL (aV x (ch X).2) f w w'→w'.cell? ⟨x,1,none⟩=some (.int .i64 X.room)):=af (fun w' ht=>by
  obtain⟨f',⟨kv,hk⟩,_⟩:=ht
  exact hk.1.room)
 have hle:=gV X (cN X 8) 60
 have HRF:Hid (cK X m=if ((keptN X 60+m:Nat):Int)≤X.room then (true,X) else (decide (((keptN (X.swept (cN X 8)) 60+m:Nat):Int)≤X.room),X.swept (cN X 8))):=af rfl
 have HPS:Hid ((ch X).1=(keptN X 60:Int) - (keptN (X.swept (cN X 8)) 60:Int)):=af rfl
 have HP2:Hid ((ch X).2=X.swept (cN X 8)):=af rfl
 rw[HPS.out] at HS
 generalize keptN (X.swept (cN X 8)) 60=k2 at HS hle HRF
 generalize X.swept (cN X 8)=Y at HRF HP2
 rw[HP2.out] at HS HC2
 generalize hkn:keptN X 60=kn at HK HS hm hle HRF
 generalize hrm:X.room=rm at c1 HC2 HRF
 generalize cK X m=RF at HRF ⊢
 clear h hkn hrm hl
 by_cases hr:((kn+m:Nat):Int)≤rm
 ·have HR1:Hid (RF=(true,X)):=af (by rw[HRF.out,if_pos hr])
  have hr':(kn:Int)+(m:Int)≤rm:=by omega
  clear HRF
  go_enter Tryz.func56,Tryz.ntmps56
  go_wp2_with fail
  go_at_call 69
  refine HK.out.mono ?_
  rintro e w' ⟨rfl,rfl⟩
  go_wp2
  go_ret
  rw[HR1.out]
  exact⟨rfl,cL.refl HPA.out hn (Fr.refl _ _)⟩
 ·have hr':¬(kn:Int)+(m:Int)≤rm:=by omega
  by_cases hr2:((k2+m:Nat):Int)≤rm
  ·have HR1:Hid (RF=(true,Y)):=af (by rw[HRF.out,if_neg hr,decide_eq_true hr2])
   clear HRF
   go_enter Tryz.func56,Tryz.ntmps56
   go_wp2_with fail
   go_at_call 69
   refine HK.out.mono ?_
   rintro e w' ⟨rfl,rfl⟩
   go_wp2_with fail
   go_at_call 36
   refine HS.out.mono ?_
   rintro e w2 ⟨rfl,ht⟩
   have c2:=HC2.out _ ht
   have HT:=af ht
   clear ht
   have q2:(kn:Int) - ((kn:Int) - (k2:Int))+(m:Int)≤rm:=by omega
   go_wp2
   go_ret
   rw[HR1.out]
   exact⟨rfl,HT.out⟩
  ·have HR1:Hid (RF=(false,Y)):=af (by rw[HRF.out,if_neg hr,decide_eq_false hr2])
   clear HRF
   go_enter Tryz.func56,Tryz.ntmps56
   go_wp2_with fail
   go_at_call 69
   refine HK.out.mono ?_
   rintro e w' ⟨rfl,rfl⟩
   go_wp2_with fail
   go_at_call 36
   refine HS.out.mono ?_
   rintro e w2 ⟨rfl,ht⟩
   have c2:=HC2.out _ ht
   have HT:=af ht
   clear ht
   have q2:¬(kn:Int) - ((kn:Int) - (k2:Int))+(m:Int)≤rm:=by omega
   have Q2:=af q2
   clear q2
   go_wp2
   go_ret
   rw[HR1.out]
   exact⟨by show Ending.returned (Value.bool (decide _))=_;rw[decide_eq_false (Int.not_le.mpr Q2.out)],HT.out⟩
theorem BC (X:ap) (m:Nat):(cK X m).2.latest=X.latest∧(cK X m).2.ses=X.ses∧(cK X m).2.src=X.src∧∀ c,((cK X m).2.hist c).length≤(X.hist c).length:=by
 unfold cK
 split
 ·exact⟨rfl,rfl,rfl,fun _=>Nat.le_refl _⟩
 ·exact⟨rfl,rfl,rfl,fun c=>ux _ _⟩
theorem tg (x:Nat) (X:ap) (f:List Nat) (n:Int) (w:World) (h:aV x X w f) (hn:f.Nodup) (hlat:0≤X.latest∧X.latest<9223372036854775807) (hl:∀ c,c<60→((X.hist c).length+1)*24≤140737488355328) (hm:keptN X 60+60≤9223372036854775807) :
  Calls Tryz.prog 29 #[.pointer (some ⟨x,0,none⟩),.int .i64 n] w fun e w'=>e=.returned (.tuple #[.int .i64 (bH X n).1.1,.int .i64 (bH X n).1.2])∧cL (aV x (bH X n).2) f w w':=by
 have HPA:=af h
 obtain⟨kv,hk0⟩:=h
 have HF:=af (eX x X n w hk0.1.ses)
 unfold bH
 cases hf:aL X n with
 |none=>
  rw[hf] at HF
  clear hf hk0
  go_enter Tryz.func29,Tryz.ntmps29
  go_wp2_with fail
  go_at_call 41
  refine HF.out.mono ?_
  rintro e w' ⟨rfl,rfl⟩
  simp only[dm]
  go_wp2
  go_ret2
  exact⟨rfl,cL.refl HPA.out hn (Fr.refl _ _)⟩
 |some k=>
  rw[hf] at HF
  have hk:k<8:=by
   unfold aL at hf
   split at hf
   ·cases hf
   ·exact (bu hf).1
  clear hf
  simp only[]
  have hP:=hk0.1
  have hS0:=hP.ses k hk
  obtain⟨S,hS⟩:∃ S,S=X.ses k:=⟨_,rfl⟩
  rw[←hS] at hS0 ⊢
  obtain⟨RES,hRES⟩:∃ RES:(Int×Int)×ap,RES=(if kC S then (if clash X S then ((0,10),X.setSes k .zero) else (if (cK X (cw S 60)).1 then ((X.latest+1,0),((cK X (cw S 60)).2.setSes k .zero).commit S) else ((0,11),(cK X (cw S 60)).2))) else ((0,0),X.setSes k .zero)):=⟨_,rfl⟩
  rw[←hRES]
  have HRES:=af hRES
  have HHW:=af (CR x (3+k*244) S w hS0)
  have HWN:=af (fun W (hW:Fr [] w W)=>tG x (3+k*244) S W ((hP.fr hW (by simp)).ses k hk |> fun h=>by rw[←hS] at h;exact h))
  have hwn60:=pj S 60
  have HHR:=af (fun W (hW:Fr [] w W)=>v9 x X f (cw S 60) W (aV.framed _ _ HPA.out hW (by simp)) hn hl (by omega))
  have HX1:=af (BC X (cw S 60))
  have HCON:Hid (∀ W,Fr [] w W→Calls Tryz.prog 54 #[.pointer (some ⟨x,1955,none⟩),.agg (aZ S.wr S.tm).toArray,.int .i64 S.snap] W fun e w''=>e=.returned (.bool (clash X S))∧W.grownBy w'' none):=af (fun W hW=>re x 1955 X kv S W (hP.fr hW (by simp)).store)
  have HHL1:Hid (∀ c,c<60→(((cK X (cw S 60)).2.hist c).length+1)*24≤140737488355328):=af (fun c hc=>by have:=HX1.out.2.2.2 c;have:=hl c hc;omega)
  obtain⟨X1,hX1⟩:∃ X1,X1=(cK X (cw S 60)).2:=⟨_,rfl⟩
  obtain⟨rb,hrb⟩:∃ rb,rb=(cK X (cw S 60)).1:=⟨_,rfl⟩
  rw[←hX1,←hrb] at HRES HHR
  rw[←hX1] at HX1 HHL1
  have HL1:Hid (X1.latest=X.latest):=af HX1.out.1
  have HCOM:Hid (∀ W f',aV x X1 W f'→f'.Nodup→Calls Tryz.prog 57 #[.pointer (some ⟨x,1955,none⟩),.agg (aZ S.wr S.tm).toArray] W fun e w''=>e=.returned (.int .i64 (X.latest+1))∧cL (aV x (X1.commit S)) f' W w''):=af (fun W f' hW hf'=>by
   have:=tU x X1 S f' W hW hf' (by rw[HL1.out];exact hlat) HHL1.out
   rw[HL1.out] at this
   exact this)
  have HZ:Hid (∀ W,Fr [] w W→(storeCells ⟨x,3+k*244,none⟩ Tryz.zeroCells82.toList 0).run Tryz.prog W=.ok () (W.setCells x (3+k*244) Tryz.zeroCells82.toList)∧cL (aV x (X.setSes k .zero)) f w (W.setCells x (3+k*244) Tryz.zeroCells82.toList)):=af (fun W hW=>by
   obtain⟨a,b⟩:=Di hk (aV.framed _ _ HPA.out hW (by simp)) hn
   exact⟨a,b.before hW⟩)
  have HSE:Hid (∀ X' W f',X'.ses=X.ses→aV x X' W f'→W.rangeAt x (3+k*244+3) (aZ S.wr S.tm)):=af (fun X' W f' he hT=>by
   obtain⟨kv',a⟩:=hT
   have h1:=(a.1.ses k hk).writes
   rw[he,←hS] at h1
   exact h1)
  have HES:Hid (X1.ses=X.ses):=af HX1.out.2.1
  have HEC:Hid ((X1.commit S).ses=X.ses):=af HX1.out.2.1
  have hsn0:=hS0.snap
  have hrw0:=hS0.writes
  have hxl:=hP.lt
  clear hRES hk0 hP hS hS0 hlat hl hm hX1 hrb
  go_enter Tryz.func29,Tryz.ntmps29
  go_wp2_with fail
  go_at_call 41
  refine HF.out.mono ?_
  rintro e w' ⟨rfl,rfl⟩
  simp only[dm]
  go_wp2_with fail
  go_at_call 53
  refine HHW.out.mono ?_
  rintro e w3 ⟨rfl,rfl⟩
  cases hhw:kC S with
  |false=>
   have HRE:Hid (RES=((0,0),X.setSes k .zero)):=af (by rw[HRES.out,hhw];rfl)
   have hst:=(HZ.out _ (Fr.refl _ _)).1
   clear hhw
   go_wp2_with fail
   go_ret2
   rw[HRE.out]
   exact⟨rfl,(HZ.out _ (Fr.refl _ _)).2⟩
  |true=>
   have hu:=Tryz.underlying77
   have hlen2:=dU S.wr S.tm
   have hinf:(Tryz.prog.info? 77).map (·.size)=some (aZ S.wr S.tm).length:=CK.trans (by rw[hlen2])
   have hR2:RES=if clash X S then ((0,10),X.setSes k .zero) else (if rb then ((X.latest+1,0),(X1.setSes k .zero).commit S) else ((0,11),X1)):=by rw[HRES.out,hhw];rfl
   have HR2:=af hR2
   obtain⟨sn,hsn'⟩:∃ sn,sn=S.snap:=⟨_,rfl⟩
   rw[←hsn'] at hsn0 HCON
   obtain⟨wl,hwl⟩:∃ wl,wl=aZ S.wr S.tm:=⟨_,rfl⟩
   rw[←hwl] at hrw0 HCON HCOM HSE hinf hlen2
   obtain⟨lt1,hlt1⟩:∃ lt1,lt1=X.latest+1:=⟨_,rfl⟩
   rw[←hlt1] at HCOM HR2
   obtain⟨cl,hcl⟩:∃ cl,cl=clash X S:=⟨_,rfl⟩
   rw[←hcl] at HCON HR2
   obtain⟨wn,hwn⟩:∃ wn,wn=cw S 60:=⟨_,rfl⟩
   rw[←hwn] at HWN HHR
   clear hhw hsn' hwl hlt1 hR2 hcl hwn
   go_wp2_with fail
   go_region_held3 (fun W=>W.rangeAt x (3+k*244+3) wl∧W.cell? ⟨x,3+k*244+1,none⟩=some (.int .i64 sn)) (first|(exact⟨t1,t2⟩)|(simp only[World.rangeAt_drew,World.cell?_drew];exact⟨hrw0,hsn0⟩)|go_keep) (first
    |(go_at_call 54
      refine (HCON.out _ (as (Fr.refl _ _))).mono ?_
      rintro e w4 ⟨rfl,hg4⟩
      have HG4:=af (aJ hg4)
      have t1:w4.rangeAt x (3+k*244+3) wl:=fun j v hv=>am hg4 (hrw0 j v hv)
      have t2:=am hg4 hsn0
      clear hg4))
   cases cl with
   |true=>
    have hst:=(HZ.out _ ((as (Fr.refl _ _)).trans HG4.out)).1
    go_wp2_with fail
    go_ret2
    rw[show RES=((0,10),X.setSes k .zero) from HR2.out]
    exact⟨rfl,(HZ.out _ ((as (Fr.refl _ _)).trans HG4.out)).2⟩
   |false=>
    have HW4:=af ((as (Fr.refl [] w3)).trans HG4.out)
    go_wp2_with fail
    go_at_call 55
    refine (HWN.out _ HW4.out).mono ?_
    rintro e w4' ⟨rfl,rfl⟩
    go_wp2_with fail
    go_at_call 56
    refine (HHR.out _ HW4.out).mono ?_
    rintro e w5 ⟨rfl,ht5⟩
    have HT5:=af ht5
    obtain⟨f5,a5,n5,s5,r5⟩:=ht5
    have t5:w5.rangeAt x (3+k*244+3) wl:=HSE.out X1 w5 f5 HES.out a5
    have HA5:=af a5
    have HS5:=af s5
    have HR5:=af r5
    clear t1 t2 a5 s5 r5
    cases rb with
    |false=>
     go_wp2_with fail
     go_ret2
     rw[show RES=((0,11),X1) from HR2.out]
     exact⟨rfl,HT5.out.before HW4.out⟩
    |true=>
     have HC5:Hid (∀ W,Fr [] w5 W→Calls Tryz.prog 57 #[.pointer (some ⟨x,1955,none⟩),.agg wl.toArray] W fun e w''=>e=.returned (.int .i64 lt1)∧cL (aV x (X1.commit S)) f5 W w''):=af (fun W hW=>HCOM.out W f5 (aV.framed _ _ HA5.out hW (by simp)) n5)
     go_wp2_with fail
     go_region_held3 (fun W=>W.rangeAt x (3+k*244+3) wl) (first|(exact t3)|(simp only[World.rangeAt_drew];exact t5)|go_keep) (first
      |(go_at_call 57
        refine (HC5.out _ (as (Fr.refl _ _))).mono ?_
        rintro e w6 ⟨rfl,ht6⟩
        have HT6:=af ht6
        obtain⟨f6,a6,n6,_,_⟩:=ht6
        have t3:=HSE.out (X1.commit S) w6 f6 HEC.out a6
        have HST:=af (Di hk a6 n6).1
        clear a6))
     have hst:=HST.out
     go_wp2_with fail
     go_ret2
     rw[show RES=((lt1,0),(X1.setSes k .zero).commit S) from HR2.out]
     exact⟨rfl,((HT6.out.then (fun f' a n=>(Di hk a n).2)).before (as (Fr.refl _ _)) |> fun h=>cL.comp HS5.out HR5.out h).before HW4.out⟩
end Go.Proofs.YthlhbjnkohinmaaGreat
