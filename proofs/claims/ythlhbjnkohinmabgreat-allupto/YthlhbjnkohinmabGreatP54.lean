import Derived.Test.YthlhbjnkohinmabGreatP53
import Derived.Test.YthlhbjnkohinmabGreatP47
import Derived.Test.YthlhbjnkohinmabGreatP23
import Derived.JoinedCond
namespace Go.Proofs.YthlhbjnkohinmabGreat
set_option maxRecDepth 100000
set_option maxHeartbeats 8000000
open Go.RowKit
theorem dy.at {bw i r:Nat}{Ps:List Pg}{f:List Nat}{w:World}(h:dy bw Ps w f)(hn:f.Nodup)(hg:qR i Ps)(hr:r<Ps.length)(hi:i≤100000000):
  ∃ v ps,w.heap[bw]?=some (.cells #[v] 26 (0,0))∧w.ownsRow 0 33 1 v Ps.length ps∧∃ g x y f1 f2,ps[r]?=some (.pointer (some ⟨g,0,none⟩))∧bU g x y Ps[r].1 Ps[r].2.1 Ps[r].2.2 f1 f2 i w∧
    ∀ W w',Fr [] w W→kV g i (g::(f1++f2)) W w'→yL bw i Ps.length f w w':=by
 have hwi:=dy.within _ _ h
 obtain⟨v,ps,f2,f3,h1,h2,h3,rfl⟩:=h
 have hl:ps.length=Ps.length:=aA.len h3
 obtain⟨fa,fg,fb,hp,e3,hput⟩:=aA.focus nc.framed h3 r (by omega) hr
 subst e3
 obtain⟨g,x,y,k1,k2,e,hpa,rfl⟩:=hp
 refine⟨v,ps,h1,h2.1,g,x,y,k1,k2,by rw[List.getElem?_eq_getElem (by omega),e],⟨hpa,?_,hg _ (List.getElem_mem hr),hi⟩,?_⟩
 ·have:(g::(k1++k2)).Sublist (bw::(f2++(fa++(g::(k1++k2)++fb)))):=
   ((((List.sublist_append_left _ fb).trans (List.sublist_append_right fa _)).trans (List.sublist_append_right f2 _))).trans (List.sublist_cons_self bw _)
  exact hn.sublist this
 ·rintro W w' hW ⟨q',hq,hgq⟩
  obtain⟨fg',a,n,s,r1⟩:=hq.before hW
  have hn2:((bw::(f2++fa))++((g::(k1++k2))++fb)).Nodup:=by simpa using hn
  have hdis:∀ k,k∈bw::(f2++fa)∨k∈fb→k∉g::(k1++k2):=by
   intro k hk hk2
   rw[List.nodup_append,List.nodup_append] at hn2
   obtain⟨_,⟨_,_,d2⟩,d1⟩:=hn2
   rcases hk with hk|hk
   ·exact d1 k hk k (List.mem_append_left _ hk2) rfl
   ·exact d2 k hk2 k hk rfl
  have hE:=hput _ _ _ _ _ a r1 (fun k hk=>hdis k (.inl (by simp[hk]))) (fun k hk=>hdis k (.inr hk))
  have hps:ps.set r (.pointer (some ⟨g,0,none⟩))=ps:=by rw[←e];simp
  rw[hps] at hE
  refine⟨Ps.set r q',⟨bw::(f2++(fa++(fg'++fb))),⟨v,ps,f2,_,(r1.block bw (lt_of_block h1) (hdis bw (.inl (by simp)))).trans h1,?_,hE,rfl⟩,?_,?_,?_⟩,?_,by simp⟩
  ·have:=bk.framed _ _ _ _ _ h2 r1 (fun k hk=>hdis k (.inl (by simp[hk])))
   simpa using this
  ·have:=dE (fa:=bw::(f2++fa)) (g:=g::(k1++k2)) (g':=fg') (fb:=fb) (N:=w.heap.size) hn2 (fun k hk=>hwi k (by simpa using hk)) n s
   simpa using this
  ·intro k hk
   have:k∈fg'→k∈g::(k1++k2)∨w.heap.size≤k:=s k
   simp only[List.mem_cons,List.mem_append] at hk this ⊢
   grind
  ·exact r1.mono (fun k hk=>.inl (by simp only[List.mem_cons,List.mem_append] at hk ⊢;grind))
  ·intro q hq
   rcases List.mem_or_eq_of_mem_set hq with hq|rfl
   ·exact (hg q hq).mono (Nat.le_succ i)
   ·exact hgq
theorem yL.before {bw i n:Nat}{f:List Nat}{w w0 w':World}(h:yL bw i n f w0 w')(hf:Fr [] w w0):yL bw i n f w w':=by
 obtain⟨Ps',h1,h2,h3⟩:=h
 exact⟨Ps',h1.before hf,h2,h3⟩
theorem BD (bw i:Nat)(Ps:List Pg)(f:List Nat)(k a b c:Int)(s:ByteArray)(w:World)(hI:dy bw Ps w f)(hn:f.Nodup)(hg:qR i Ps)(hi:i≤100000000)(hl:(Ps.length+1)*8≤140737488355328)(ha:-9223372036854775808≤a)(ha2:a≤9223372036854775807)(hs:s.size≤maxLen):
  Calls Tryz.prog 4 #[.pointer (some ⟨bw,0,none⟩),ey k a b c s] w fun e w'=>e=.returned (.bool true)∧yL bw i Ps.length f w w':=by
 have hs63:s.size<9223372036854775808:=by unfold maxLen at hs;omega
 by_cases hk1:k=1
 ·subst hk1
  have HM:=af (fun o=>BQ bw i Ps f s c (w.alloc o) (dy.framed _ _ hI (aB w o) (by simp)) hn hg hs hl)
  clear hI hg
  go_enter Tryz.func4,Tryz.ntmps4
  go_wp2_with fail
  go_at_call 6
  refine (HM.out _).mono ?_
  rintro e w1 ⟨rfl,hw⟩
  have HW:=af hw
  clear hw
  go_wp2
  go_ret
  exact⟨rfl,HW.out.before (aB w _)⟩
 ·have hk2:(k==1)=false:=by simpa using hk1
  by_cases hz:Ps=[]∨k<1
  ·have HS:Hid (∀ w',Fr [] w w'→yL bw i Ps.length f w w'):=af (fun w' hw=>yL.same hI hn hg hw)
   obtain⟨v,ps,f2,f3,h1,h2,h3,rfl⟩:=hI
   obtain⟨av,mv,cv,rfl⟩:=an h2.1
   have em:=ar h2.1
   have c0:=cell_of_one h1
   have hlb:=lt_of_block h1
   have hzz:bw≠w.heap.size:=by omega
   subst em
   clear h1 h2 h3 hn hg hk1
   by_cases hm:Ps.length=0
   ·rw[hm] at c0
    clear hz
    go_enter Tryz.func4,Tryz.ntmps4
    go_wp2
    go_ret
    exact⟨rfl,HS.out _ (aB w _)⟩
   ·have hk3:k<1:=by
     rcases hz with h|h
     ·rw[h] at hm;simp at hm
     ·exact h
    have hm':((Ps.length:Int)==0)=false:=by simp;intro e;rw[e] at hm;simp at hm
    clear hm hz
    go_enter Tryz.func4,Tryz.ntmps4
    go_wp2
    go_ret
    exact⟨rfl,HS.out _ (aB w _)⟩
  ·have hm:Ps≠[]:=fun e=>hz (.inl e)
   have hk3:2≤k:=by have:¬k<1:=fun e=>hz (.inr e);omega
   have hpos:0<Ps.length:=List.length_pos_iff.mpr hm
   have hr:=CT a hpos
   obtain⟨v,ps,h1,h2,g,x,y,f1,f2,hpr,hst,hgo⟩:=dy.at hI hn hg hr hi
   obtain⟨av,mv,cv',rfl⟩:=an h2
   have em:=ar h2
   subst em
   have c0:=cell_of_one h1
   have hlb:=lt_of_block h1
   have hzz:bw≠w.heap.size:=by omega
   have hm':((Ps.length:Int)==0)=false:=by simp;exact hm
   have hk4:¬k<1:=by omega
   have HPK:=af (fun W=>Cg a Ps.length W ha ha2 hpos (by omega))
   rw[←Dt a hpos] at HPK
   obtain⟨gr,rfl,_,hgb,hgl,hcell⟩:=aC h2 hpos
   have d0:=hcell _ _ hpr
   have z1:gr≠w.heap.size:=by omega
   by_cases hk:k≤6
   ·have HPS:=af (fun W (hW:Fr [] w W)=>uT k a b c s (hst.grown hW) hs63 hk3 hk)
    have HGO:=af hgo
    obtain⟨pn,hpn⟩:∃ pn,pn=rU a Ps.length:=⟨_,rfl⟩
    rw[←hpn] at d0 HPK hr
    clear hcell h1 h2 hst hgo hpn hm hI hg hn hpr hz hk1
    go_enter Tryz.func4,Tryz.ntmps4
    go_wp2_with fail
    go_quiet ((go_at_call 7;exact Calls.quiet_of_same (HPK.out _)))
    go_wp2_with fail
    go_at_call 8
    refine (HPS.out _ ((aB w _).drewN _)).mono ?_
    rintro e w1 ⟨rfl,hp⟩
    have HP:=af hp
    clear hp
    go_wp2
    go_ret
    exact⟨rfl,HGO.out _ _ ((aB w _).drewN _) HP.out⟩
   ·have hk7:7≤k:=by omega
    have HPS:=af (fun W (hW:Fr [] w W)=>Ag k a b c s (hst.grown hW) hk7)
    have HGO:=af hgo
    obtain⟨pn,hpn⟩:∃ pn,pn=rU a Ps.length:=⟨_,rfl⟩
    rw[←hpn] at d0 HPK hr
    clear hcell h1 h2 hst hgo hpn hm hI hg hn hpr hz hk1
    go_enter Tryz.func4,Tryz.ntmps4
    go_wp2_with fail
    go_quiet ((go_at_call 7;exact Calls.quiet_of_same (HPK.out _)))
    go_wp2_with fail
    go_at_call 9
    refine (HPS.out _ ((aB w _).drewN _)).mono ?_
    rintro e w1 ⟨rfl,hp⟩
    have HP:=af hp
    clear hp
    go_wp2
    go_ret
    exact⟨rfl,HGO.out _ _ ((aB w _).drewN _) HP.out⟩
section
variable {g x y:Nat} {X:ap} {F:dN} {E:bm} {f1 f2:List Nat} {i:Nat} {w:World}
theorem bU.finS {w':World}(h:bU g x y X F E f1 f2 i w)(hb:pH f1 f2 (a9 x X F) (bG (QD X.src.2.1 X.src.2.2) y E) w w'):bP (nc (.pointer (some ⟨g,0,none⟩)) (X,F,E)) (g::(f1++f2)) w w':=by
 obtain⟨W,W1,hW,h1,h2⟩:=hb
 exact vk h.pair h.nodup (h1.back hW) h2 rfl
theorem Dc (a b c:Int)(s:ByteArray)(h:bU g x y X F E f1 f2 i w):
  Calls Tryz.prog 8 #[.pointer (some ⟨g,0,none⟩),ey 5 a b c s] w fun e w'=>e=.returned (.bool true)∧bP (nc (.pointer (some ⟨g,0,none⟩)) (X,F,E)) (g::(f1++f2)) w w':=by
 obtain⟨hg1,hg2,hd12,hn1,hn2,hl1,hl2⟩:=h.apart
 have hsm:=h.small
 have hwf:=h.good.wf (by omega)
 have hview:=h.good.sim.view b
 refine (uD g x y f1 f2 (a9 x X F) (bG (QD X.src.2.1 X.src.2.2) y E) (e9 X b).1 (e9 X b).2 a b c s w h.pair.block hg1 hg2 hl1 hl2 (af (fun W hW=>?_)) (af (fun W W1 W1' hW h1 hf=>?_))).mono ?_
 ·exact uC x X F f1 i b W (h.grown hW).pair.prog hn1 h.good.fit (by omega)
 ·refine (r8 _ y E f2 b W1' (h.doc hW h1 hf) hwf).mono ?_
  rintro e w' ⟨rfl,hq⟩
  have hd:=h.readD hW h1 hf (aI hq)
  refine⟨⟨?_,hd.1⟩,hd.2⟩
  rw[hview]
  cases dk E.opn b <;> rfl
 ·rintro e w' ⟨rfl,hb⟩
  exact⟨rfl,h.finS hb⟩
theorem uV (a b c:Int)(s:ByteArray)(h:bU g x y X F E f1 f2 i w):
  Calls Tryz.prog 9 #[.pointer (some ⟨g,0,none⟩),ey 8 a b c s] w fun e w'=>e=.returned (.bool true)∧bP (nc (.pointer (some ⟨g,0,none⟩)) (X,F,E)) (g::(f1++f2)) w w':=by
 obtain⟨hg1,hg2,hd12,hn1,hn2,hl1,hl2⟩:=h.apart
 have hsm:=h.small
 have hmat:=h.good.mat b
 refine (oL g x y f1 f2 (a9 x X F) (bG (QD X.src.2.1 X.src.2.2) y E) (nq X.src.2.1 X.src.2.2 E b).1 (nq X.src.2.1 X.src.2.2 E b).2 a b c s w h.pair.block hg1 hg2 hl1 hl2 (af (fun W hW=>?_)) (af (fun W W1 W1' hW h1 hf=>?_))).mono ?_
 ·have:=oO x X F f1 i b W (h.grown hW).pair.prog hn1 h.good.fit (by omega) h.good.rul.prog
  rw[hmat] at this
  exact this
 ·refine (qj b (h.doc hW h1 hf) h.good (by omega)).mono ?_
  rintro e w' ⟨rfl,hq⟩
  have hd:=h.readD hW h1 hf (aI hq)
  exact⟨⟨rfl,hd.1⟩,hd.2⟩
 ·rintro e w' ⟨rfl,hb⟩
  exact⟨rfl,h.finS hb⟩
theorem Dr (h:bU g x y X F E f1 f2 i w):
  Calls Tryz.prog 10 #[.pointer (some ⟨x,0,none⟩)] w fun e w'=>e=.returned (.int .i64 E.kept.length)∧bP (nc (.pointer (some ⟨g,0,none⟩)) (X,F,E)) (g::(f1++f2)) w w':=by
 obtain⟨hg1,hg2,hd12,hn1,hn2,hl1,hl2⟩:=h.apart
 have hsm:=h.small
 have hkl:=h.good.sim.kept.len
 have:=un x X F f1 i w h.pair.prog hn1 h.good.fit (by omega)
 rw[hkl] at this
 refine this.mono ?_
 rintro e w' ⟨rfl,h1⟩
 exact⟨rfl,h.finS ⟨w,w',Fr.refl _ _,h1,(h.readD (Fr.refl _ _) h1 (Fr.refl _ _) (Fr.refl _ _)).1⟩⟩
theorem bU.cells (h:bU g x y X F E f1 f2 i w):w.cell? ⟨g,0,none⟩=some (.pointer (some ⟨x,0,none⟩))∧w.cell? ⟨g,1,none⟩=some (.pointer (some ⟨y,0,none⟩))∧(∃ ak ck,w.cell? ⟨y,3,none⟩=some (.slice ak E.kept.length ck))∧∃ ao co,w.cell? ⟨y,4,none⟩=some (.slice ao E.opn.length co)∧∀ j (hj:j<E.opn.length),∃ go gs,ao=some ⟨go,0,none⟩∧w.cell? ⟨go,j,none⟩=some (.pointer (some ⟨gs,0,none⟩))∧w.cell? ⟨gs,0,none⟩=some (.int .i64 E.opn[j].num):=by
 have hdoc:=h.pair.doc
 obtain⟨rv,cv,kv,ov,cs,ps,u1,u2,⟨hb,rfl⟩,⟨u3,u4,_,⟨u5,u6,_,⟨u7,u8,_,⟨u9,u10,⟨hkr,_⟩,⟨u11,u12,⟨hor,_⟩,hses,_⟩,_⟩,_⟩,_⟩,_⟩,ef⟩:=hdoc
 obtain⟨ak,mk,ck,rfl⟩:=an hkr
 have emk:=ar hkr
 subst emk
 obtain⟨ao,mo,co,rfl⟩:=an hor
 have emo:=ar hor
 subst emo
 refine⟨by rw[cell_of_row _ _ _ _ _ _ h.pair.block];rfl,by rw[cell_of_row _ _ _ _ _ _ h.pair.block];rfl,⟨ak,ck,by simp[World.cell?,hb]⟩,ao,co,by simp[World.cell?,hb],fun j hj=>?_⟩
 obtain⟨go,rfl,_,_,_,hcell⟩:=aC hor (by omega)
 have hpl:=aA.len hses
 have hj2:j<ps.length:=by omega
 obtain⟨_,hse,_⟩:=aA.get hses j hj2 hj
 obtain⟨gs,_,_,_,_,_,_,hp,hb1,_⟩:=hse.open
 refine⟨go,gs,rfl,?_,by simp[World.cell?,hb1]⟩
 rw[←hp]
 exact hcell j _ (List.getElem?_eq_getElem hj2)
end
def fD (bw:Nat)(v:Value)(ps:List Value)(Ps:List Pg):eM:=fun w f=>∃ f2 f3,w.heap[bw]?=some (.cells #[v] 26 (0,0))∧bk 33 1 v Ps.length ps w f2∧aA nc ps Ps w f3∧f=bw::(f2++f3)
theorem dy.named {bw:Nat}{Ps:List Pg}{w:World}{f:List Nat}(h:dy bw Ps w f):∃ v ps,fD bw v ps Ps w f:=by
 obtain⟨v,ps,f2,f3,h1,h2,h3,e⟩:=h
 exact⟨v,ps,f2,f3,h1,h2,h3,e⟩
theorem fD.world {bw:Nat}{v:Value}{ps:List Value}{Ps:List Pg}{w:World}{f:List Nat}(h:fD bw v ps Ps w f):dy bw Ps w f:=by
 obtain⟨f2,f3,h1,h2,h3,e⟩:=h
 exact⟨v,ps,f2,f3,h1,h2,h3,e⟩
theorem fD.at {bw i r:Nat}{v:Value}{ps:List Value}{Ps:List Pg}{f:List Nat}{w:World}(h:fD bw v ps Ps w f)(hn:f.Nodup)(hg:qR i Ps)(hr:r<Ps.length)(hi:i≤100000000):
  w.heap[bw]?=some (.cells #[v] 26 (0,0))∧w.ownsRow 0 33 1 v Ps.length ps∧∃ g x y f1 f2,ps[r]?=some (.pointer (some ⟨g,0,none⟩))∧bU g x y Ps[r].1 Ps[r].2.1 Ps[r].2.2 f1 f2 i w∧(∀ k∈g::(f1++f2),k∈f)∧
   ∀ W w',Fr [] w W→bP (nc (.pointer (some ⟨g,0,none⟩)) Ps[r]) (g::(f1++f2)) W w'→bP (fD bw v ps Ps) f w w':=by
 have hwi:=dy.within _ _ h.world
 obtain⟨f2,f3,h1,h2,h3,rfl⟩:=h
 have hl:ps.length=Ps.length:=aA.len h3
 obtain⟨fa,fg,fb,hp,e3,hput⟩:=aA.focus nc.framed h3 r (by omega) hr
 subst e3
 obtain⟨g,x,y,k1,k2,e,hpa,rfl⟩:=hp
 refine⟨h1,h2.1,g,x,y,k1,k2,by rw[List.getElem?_eq_getElem (by omega),e],⟨hpa,?_,hg _ (List.getElem_mem hr),hi⟩,?_,?_⟩
 ·have:(g::(k1++k2)).Sublist (bw::(f2++(fa++(g::(k1++k2)++fb)))):=
   ((((List.sublist_append_left _ fb).trans (List.sublist_append_right fa _)).trans (List.sublist_append_right f2 _))).trans (List.sublist_cons_self bw _)
  exact hn.sublist this
 ·intro k hk
  simp only[List.mem_cons,List.mem_append] at hk ⊢
  grind
 ·rintro W w' hW hq
  obtain⟨fg',a,n,s,r1⟩:=hq.before hW
  have hn2:((bw::(f2++fa))++((g::(k1++k2))++fb)).Nodup:=by simpa using hn
  have hdis:∀ k,k∈bw::(f2++fa)∨k∈fb→k∉g::(k1++k2):=by
   intro k hk hk2
   rw[List.nodup_append,List.nodup_append] at hn2
   obtain⟨_,⟨_,_,d2⟩,d1⟩:=hn2
   rcases hk with hk|hk
   ·exact d1 k hk k (List.mem_append_left _ hk2) rfl
   ·exact d2 k hk2 k hk rfl
  have hE:=hput _ _ _ _ _ a r1 (fun k hk=>hdis k (.inl (by simp[hk]))) (fun k hk=>hdis k (.inr hk))
  have hps:ps.set r (.pointer (some ⟨g,0,none⟩))=ps:=by rw[←e];simp
  have hPs:Ps.set r Ps[r]=Ps:=by simp
  rw[hps,hPs] at hE
  refine⟨bw::(f2++(fa++(fg'++fb))),⟨f2,_,(r1.block bw (lt_of_block h1) (hdis bw (.inl (by simp)))).trans h1,bk.framed _ _ _ _ _ h2 r1 (fun k hk=>hdis k (.inl (by simp[hk]))),hE,rfl⟩,?_,?_,?_⟩
  ·have:=dE (fa:=bw::(f2++fa)) (g:=g::(k1++k2)) (g':=fg') (fb:=fb) (N:=w.heap.size) hn2 (fun k hk=>hwi k (by simpa using hk)) n s
   simpa using this
  ·intro k hk
   have:k∈fg'→k∈g::(k1++k2)∨w.heap.size≤k:=s k
   simp only[List.mem_cons,List.mem_append] at hk this ⊢
   grind
  ·exact r1.mono (fun k hk=>.inl (by simp only[List.mem_cons,List.mem_append] at hk ⊢;grind))
theorem bP.join {B:eM}{f f':List Nat}{w w1 w2:World}(s:∀ x∈f',x∈f∨w.heap.size≤x)(r:Fr f w w1)(h:bP B f' w1 w2):bP B f w w2:=by
 obtain⟨f2,a2,n2,s2,r2⟩:=h
 refine⟨f2,a2,n2,fun x hx=>?_,r.then r2 s⟩
 rcases s2 x hx with h|h
 ·exact s x h
 ·exact .inr (Nat.le_trans r.size h)
theorem yD {bw i k g0:Nat}{v:Value}{ps:List Value}{Ps:List Pg}{f:List Nat}{w wr:World}(hA:bP (fD bw v ps Ps) f w wr)(hg:qR i Ps)(hk:k<Ps.length)(hi:i≤100000000)(h0:ps[k]?=some (.pointer (some ⟨g0,0,none⟩))):
  wr.heap[bw]?=some (.cells #[v] 26 (0,0))∧wr.ownsRow 0 33 1 v Ps.length ps∧∃ x y f1 f2,bU g0 x y Ps[k].1 Ps[k].2.1 Ps[k].2.2 f1 f2 i wr∧
   ∀ W w',Fr [] wr W→bP (nc (.pointer (some ⟨g0,0,none⟩)) Ps[k]) (g0::(f1++f2)) W w'→bP (fD bw v ps Ps) f w w':=by
 obtain⟨f',a',n',s',r'⟩:=hA
 obtain⟨hb,hrow,g,x,y,f1,f2,hps,hst,_,hgo⟩:=a'.at n' hg hk hi
 have eg:g=g0:=by
  rw[h0] at hps
  simpa using hps.symm
 subst eg
 exact⟨hb,hrow,x,y,f1,f2,hst,fun W w' hW h=>bP.join s' r' (hgo W w' hW h)⟩
theorem Cv {bw i k:Nat}{v:Value}{ps:List Value}{Ps:List Pg}{f:List Nat}{w wr:World}(hA:bP (fD bw v ps Ps) f w wr)(hg:qR i Ps)(hk:k<Ps.length)(hi:i≤100000000):∃ g,ps[k]?=some (.pointer (some ⟨g,0,none⟩)):=by
 obtain⟨f',a',n',s',r'⟩:=hA
 obtain⟨_,_,g,_,_,_,_,hps,_⟩:=a'.at n' hg hk hi
 exact⟨g,hps⟩
theorem CI {g x y i:Nat}{X:ap}{F:dN}{E:bm}{f1 f2:List Nat}{q:Pg}{wr W w3:World}(hst:bU g x y X F E f1 f2 i wr)(hW:Fr [] wr W)(hsz:W.heap.size=wr.heap.size+1)(ht:bP (nc (.pointer (some ⟨g,0,none⟩)) q) (g::(f1++f2)) W w3)(u:Value):
  bP (nc (.pointer (some ⟨g,0,none⟩)) q) (g::(f1++f2)) wr (w3.setCell ⟨wr.heap.size,0,none⟩ u)∧w3.heap[wr.heap.size]?=W.heap[wr.heap.size]?:=by
 have hlt:∀ k∈g::(f1++f2),k<wr.heap.size:=nc.within (.pointer (some ⟨g,0,none⟩)) (X,F,E) ⟨g,x,y,f1,f2,rfl,hst.pair,rfl⟩
 obtain⟨f3,a3,n3,s3,r3⟩:=ht
 have hb:wr.heap.size∉f3:=fun e=>by
  rcases s3 _ e with h|h
  ·have:=hlt _ h;omega
  ·omega
 refine⟨⟨f3,nc.framed _ _ a3 ((Fr.refl [wr.heap.size] w3).set (.inl (by simp)) u) (fun k hk e=>?_),n3,fun k hk=>?_,?_⟩,r3.block _ (by omega) (fun e=>by have:=hlt _ e;omega)⟩
 ·simp at e
  subst e
  exact hb hk
 ·rcases s3 k hk with h|h
  ·exact .inl h
  ·exact .inr (by omega)
 ·exact ((hW.mono (fun k hk=>by cases hk)).trans r3).set (.inr (Nat.le_refl _)) u
theorem zD (bw i:Nat)(Ps:List Pg)(f:List Nat)(w:World)(hI:dy bw Ps w f)(hn:f.Nodup)(hg:qR i Ps)(hi:i≤100000000)(hl:Ps.length≤100000000):
  Calls Tryz.prog 5 #[.pointer (some ⟨bw,0,none⟩)] w fun e w'=>e=.returned (.bool true)∧bP (dy bw Ps) f w w':=by
 obtain⟨v,ps,hH⟩:=hI.named
 have hH0:=hH
 obtain⟨f2,f3,h1,h2,h3,_⟩:=hH0
 obtain⟨av,mv,cv,rfl⟩:=an h2.1
 have em:=ar h2.1
 subst em
 have HG:=af hg
 have H0:Hid (bP (fD bw (.slice av Ps.length cv) ps Ps) f w w):=af ⟨f,hH,hn,fun _ hx=>.inl hx,Fr.refl _ _⟩
 have HEND:Hid (∀ w',bP (fD bw (.slice av Ps.length cv) ps Ps) f w w'→bP (dy bw Ps) f w w'):=af (fun w' h=>by
  obtain⟨f',a,n,s,r⟩:=h
  exact⟨f',a.world,n,s,r⟩)
 have HC0:Hid (∀ wr,bP (fD bw (.slice av Ps.length cv) ps Ps) f w wr→wr.cell? ⟨bw,0,none⟩=some (.slice av Ps.length cv)):=af (fun wr h=>by
  obtain⟨f',⟨_,_,a,_⟩,n,s,r⟩:=h
  exact cell_of_one a)
 have HWF:Hid (∀ k (hk:k<Ps.length),Ps[k].2.2.opn.length≤8∧Ps[k].2.2.kept.length≤999):=af (fun k hk=>⟨(hg _ (List.getElem_mem hk)).sim.len,(hg _ (List.getElem_mem hk)).keptLen⟩)
 clear hI hn hg hH h1 h2 h3
 go_enter Tryz.func5,Tryz.ntmps5
 go_wp2_with fail
 go_loopw [3] (fun t wr=>∃ k:Nat,k≤Ps.length∧t=.int .i64 k∧bP (fD bw (.slice av Ps.length cv) ps Ps) f w wr) (fun t _=>Ps.length - (intOf t).toNat)
 case atStart=>exact⟨0,Nat.zero_le _,rfl,H0.out⟩
 case round=>
  obtain⟨k,hk,rfl,hA⟩:=hrel
  have HA:=af hA
  clear hA
  have c0:=HC0.out wr HA.out
  by_cases hlt:k<Ps.length
  ·obtain⟨g,hps⟩:=Cv HA.out HG.out hlt hi
   obtain⟨_,hrow,_⟩:=yD HA.out HG.out hlt hi hps
   have HPS:=af hps
   obtain⟨gr,ear,_,_,hgrl,hcell⟩:=aC hrow (by omega)
   have d0:=hcell _ _ hps
   obtain⟨ho8,hk9⟩:=HWF.out k hlt
   have hLA:∀ wr',bP (fD bw (.slice av Ps.length cv) ps Ps) f w wr'→∃ x y f1 f2,bU g x y Ps[k].1 Ps[k].2.1 Ps[k].2.2 f1 f2 i wr'∧∀ W w',Fr [] wr' W→bP (nc (.pointer (some ⟨g,0,none⟩)) Ps[k]) (g::(f1++f2)) W w'→bP (fD bw (.slice av Ps.length cv) ps Ps) f w w':=fun wr' h=>(yD h HG.out hlt hi HPS.out).2.2
   generalize Ps[k]=q at hLA ho8 hk9
   obtain⟨X,F,E⟩:=q
   simp only[] at ho8 hk9 hLA
   have HLA:=af hLA
   clear hcell hrow hps hLA
   subst ear
   obtain⟨x,y,f1,f2,hst,hgo⟩:=HLA.out wr HA.out
   obtain⟨e0,_⟩:=hst.cells
   have HK:=af (Dr hst)
   have HGO:=af hgo
   clear hst hgo
   go_wp2_with fail
   go_at_call 10
   refine HK.out.mono ?_
   rintro e w1 ⟨rfl,ht⟩
   have HA1:Hid (bP (fD bw (.slice (some ⟨gr,0,none⟩) Ps.length cv) ps Ps) f w w1):=af (HGO.out _ _ (Fr.refl _ _) ht)
   obtain⟨x1,y1,f11,f21,hst1,_⟩:=HLA.out w1 HA1.out
   obtain⟨_,e1,⟨ak,ck,e3⟩,_⟩:=hst1.cells
   have q0:((E.kept.length:Int) != (E.kept.length:Int))=false:=by simp
   clear ht hst1 HK HGO c0 d0 e0
   go_wp2_with fail
   go_loopw [6] (fun t wr2=>∃ j:Nat,j≤E.opn.length∧t=.int .i64 j∧bP (fD bw (.slice (some ⟨gr,0,none⟩) Ps.length cv) ps Ps) f w wr2) (fun t _=>E.opn.length - (intOf t).toNat)
   case atStart=>exact⟨0,Nat.zero_le _,rfl,HA1.out⟩
   case round=>
    clear e1 e3
    obtain⟨j,hj,rfl,hA2⟩:=hrel
    have HA2:=af hA2
    clear hA2
    obtain⟨x2,y2,f12,f22,hst2,hgo2⟩:=HLA.out _ HA2.out
    obtain⟨_,e1,_,ao,co,e4,hses⟩:=hst2.cells
    by_cases hjl:j<E.opn.length
    ·obtain⟨go,gs,eao,e5,e6⟩:=hses j hjl
     have hgl2:g<wr.heap.size:=World.block_lt_of_cell? _ _ e1
     obtain⟨nm,hnm⟩:∃ nm,nm=E.opn[j].num:=⟨_,rfl⟩
     rw[←hnm] at e6
     have HV:=af (fun W (hW:Fr [] wr W)=>Dc 0 nm 0 ByteArray.empty (hst2.grown hW))
     have HST2:=af hst2
     have HGO2:=af hgo2
     clear hses hst2 hgo2 hnm
     subst eao
     go_wp2_with fail
     go_at_call 8
     refine (HV.out _ (aB wr _)).mono ?_
     rintro e w3 ⟨rfl,ht3⟩
     obtain⟨hb3,hb4⟩:=CI HST2.out (aB wr _) (by simp) ht3 (.int .i64 8)
     have hblk:w3.heap[wr.heap.size]?=some (.cells #[.int .i64 5,.int .i64 0,.int .i64 nm,.int .i64 0,.string ByteArray.empty] 29 (0,0)):=by
      rw[hb4]
      exact heap_alloc_new wr _
     have HA3:=af (HGO2.out _ _ (Fr.refl _ _) hb3)
     have s0:=ai hblk
     have t0:w3.cell? ⟨wr.heap.size,0,none⟩=some (.int .i64 5):=by simp[World.cell?,hblk]
     have t1:w3.cell? ⟨wr.heap.size,1,none⟩=some (.int .i64 0):=by simp[World.cell?,hblk]
     have t2:w3.cell? ⟨wr.heap.size,2,none⟩=some (.int .i64 nm):=by simp[World.cell?,hblk]
     have t3:w3.cell? ⟨wr.heap.size,3,none⟩=some (.int .i64 0):=by simp[World.cell?,hblk]
     have t4:w3.cell? ⟨wr.heap.size,4,none⟩=some (.string ByteArray.empty):=by simp[World.cell?,hblk]
     obtain⟨x4,y4,f14,f24,hst4,hgo4⟩:=HLA.out _ HA3.out
     have HM:=af (uV 0 nm 0 ByteArray.empty hst4)
     have HGO4:=af hgo4
     clear hst4 hgo4 hb3 hb4 ht3 HV HST2 HGO2 e1 e4 e5 e6
     go_wp2_with fail
     go_at_call 9
     refine HM.out.mono ?_
     rintro e w5 ⟨rfl,ht5⟩
     have HA5:=af (HGO4.out _ _ (Fr.refl _ _) ht5)
     clear ht5 HM HGO4 t0 t1 t2 t3 t4 s0 hblk
     go_wp2_with fail
     go_roundw
     case rel=>exact⟨j+1,by omega,by go_num,HA5.out⟩
     case measure=>simp[intOf];omega
    ·clear hses hst2 hgo2
     go_wp2_with fail
     go_roundw
     case rel=>exact⟨k+1,by omega,by go_num,HA2.out⟩
     case measure=>simp[intOf];omega
  ·go_wp2_with fail
   go_ret
   exact⟨rfl,HEND.out _ HA.out⟩
structure nz (B:Nat)(w:World)(i:Nat)(wr:World)(Ps:List Pg)(f:List Nat):Prop where
 inv:dy B Ps wr f
 nodup:f.Nodup
 above:∀ g∈f,B≤g
 good:qR i Ps
 few:Ps.length≤i
 below:Below B w wr
 room:B<wr.heap.size
theorem nz.step {B:Nat}{w:World}{i:Nat}{wr wr':World}{Ps:List Pg}{f:List Nat}(h:nz B w i wr Ps f)(ht:yL B i Ps.length f wr wr'):∃ Ps' f',nz B w (i+1) wr' Ps' f':=by
 obtain⟨Ps',⟨f',a,n,s,r⟩,hg,hl⟩:=ht
 have hroom:=h.room
 refine⟨Ps',f',a,n,fun g hg=>?_,hg,by have:=h.few;omega,h.below.trans (r.below (Nat.le_of_lt hroom) h.above),Nat.lt_of_lt_of_le hroom r.size⟩
 rcases s g hg with h1|h1
 ·exact h.above g h1
 ·omega
theorem nz.look {B:Nat}{w:World}{i:Nat}{wr wr':World}{Ps:List Pg}{f:List Nat}(h:nz B w i wr Ps f)(ht:bP (dy B Ps) f wr wr'):∃ f',nz B w i wr' Ps f':=by
 obtain⟨f',a,n,s,r⟩:=ht
 have hroom:=h.room
 refine⟨f',a,n,fun g hg=>?_,h.good,h.few,h.below.trans (r.below (Nat.le_of_lt hroom) h.above),Nat.lt_of_lt_of_le hroom r.size⟩
 rcases s g hg with h1|h1
 ·exact h.above g h1
 ·omega
theorem DA (w:World)(sb off len cap:Nat)(hsb:sb<w.heap.size)(hlen:len≤10000000)(hscr:∀ t,t<len→∃ k a b c s,D5 w sb (off+t*5) k a b c s):
  Calls Tryz.prog 3 #[.slice (some ⟨sb,off,none⟩) len cap] w fun e w'=>e=.returned (.bool true)∧Below w.heap.size w w':=by
 have HS:=af hscr
 clear hscr
 go_enter Tryz.func3,Tryz.ntmps3
 go_wp2_with fail
 go_loopw [4] (fun t wr=>∃ (k:Nat) (Ps:List Pg) (f:List Nat),k≤len∧t=.int .i64 k∧nz w.heap.size w k wr Ps f) (fun t _=>len - (intOf t).toNat)
 case atStart=>
  refine⟨0,[],[w.heap.size],Nat.zero_le _,rfl,⟨⟨_,[],[],[],heap_alloc_new w _,bk.nil _ _ _,rfl,rfl⟩,by simp,by simp,by simp,by simp,(Below.refl _ w).alloc (Nat.le_refl _) _,by simp⟩⟩
 case round=>
  obtain⟨k,Ps,f,hk,rfl,hL⟩:=hrel
  have HL:=af hL
  clear hL
  by_cases hlt:k<len
  ·obtain⟨kk,aa,bb,cc,s,c0,c1,c2,c3,c4,a1,a2,hs⟩:=HS.out k hlt
   have hBe:=HL.out.below
   have hroom:=HL.out.room
   have d0:=(hBe.cell (p:=⟨sb,off+k*5,none⟩) hsb).trans c0
   have d1:=(hBe.cell (p:=⟨sb,off+k*5+1,none⟩) hsb).trans c1
   have d2:=(hBe.cell (p:=⟨sb,off+k*5+2,none⟩) hsb).trans c2
   have d3:=(hBe.cell (p:=⟨sb,off+k*5+3,none⟩) hsb).trans c3
   have d4:=(hBe.cell (p:=⟨sb,off+k*5+4,none⟩) hsb).trans c4
   clear c0 c1 c2 c3 c4 hBe
   have HSTEP:Hid (Calls Tryz.prog 4 #[.pointer (some ⟨w.heap.size,0,none⟩),ey kk aa bb cc s] wr fun e w'=>e=.returned (.bool true)∧∃ Ps' f',nz w.heap.size w (k+1) w' Ps' f'):=af (by
    have hq:=HL.out
    have:=hq.few
    refine (BD w.heap.size k Ps f kk aa bb cc s wr hq.inv hq.nodup hq.good (by omega) (by omega) a1 a2 hs).mono ?_
    rintro e w' ⟨rfl,ht⟩
    exact⟨rfl,hq.step ht⟩)
   go_wp2_with fail
   go_at_call 4
   refine HSTEP.out.mono ?_
   rintro e w2 ⟨rfl,Ps2,f2,hl2⟩
   have HLK:Hid (Calls Tryz.prog 5 #[.pointer (some ⟨w.heap.size,0,none⟩)] w2 fun e w'=>e=.returned (.bool true)∧∃ f',nz w.heap.size w (k+1) w' Ps2 f'):=af (by
    have:=hl2.few
    refine (zD w.heap.size (k+1) Ps2 f2 w2 hl2.inv hl2.nodup hl2.good (by omega) (by omega)).mono ?_
    rintro e w' ⟨rfl,ht⟩
    exact⟨rfl,hl2.look ht⟩)
   clear hl2 d0 d1 d2 d3 d4 HSTEP
   go_wp2_with fail
   go_at_call 5
   refine HLK.out.mono ?_
   rintro e w3 ⟨rfl,f3,hl3⟩
   have HL3:=af hl3
   clear hl3 HLK
   go_wp2_with fail
   go_roundw
   case rel=>exact⟨k+1,Ps2,f3,by omega,by go_num,HL3.out⟩
   case measure=>simp[intOf];omega
  ·go_wp2
   go_ret
   exact⟨rfl,HL.out.below⟩
open Go.ChangeShapes Go.WideShapes Go.ChangeAt Go.RowKit Go.Deep
theorem Bg (w:World)(a:Option Addr)(cap:Nat):
  Calls Tryz.prog 3 #[.slice a 0 cap] w fun e w'=>e=.returned (.bool true)∧Below w.heap.size w w':=by
 go_enter Tryz.func3,Tryz.ntmps3
 go_wp2_with fail
 refine wp_loop_rounds 1 ?_
 rw[rounds_succ]
 go_wp2
 go_ret
 exact⟨rfl,(Below.refl _ w).alloc (Nat.le_refl _) _⟩
theorem BV (w:World)(a:Option Addr)(len cap:Nat)(h:qv w a len)(hlen:len≤10000000):
  Calls Tryz.prog 3 #[.slice a len cap] w fun e w'=>e=.returned (.bool true)∧Below w.heap.size w w':=by
 rcases h with rfl|⟨sb,off,rfl,h1,h2⟩
 ·exact Bg w a cap
 ·exact DA w sb off len cap h1 hlen h2
theorem wX (os:Os)(started:os.Started)(H:Type)(enc:TypeId×Value→H)(F:Stop.Interp):
  ReturnsInHanded {} Tryz.checked os 3 .any ((Rows.OpenSpec.upto Rows.allSpec).pre6 enc Tryz.prog Tryz.f3 Rows.allUptoRow.domain false) (((Rows.OpenSpec.upto Rows.allSpec).at F).post enc Tryz.prog Tryz.f3 false true false false):=by
 refine returnsInHanded_of_cond (C:=Tryz.checked) (s:=Rows.OpenSpec.upto Rows.allSpec) (k:=Rows.uptoSmall) rfl Tryz.own started (by kernel_rfl) Tryz.func3
  (OpenSpec.witness (enc:=enc) (C:=Tryz.checked) (s:=Rows.OpenSpec.upto Rows.allSpec) (k:=Rows.uptoSmall) rfl false ⟨#[],#[.slice none 0 0],[]⟩ 8 (by kernel_rfl) (by kernel_rfl) (by kernel_rfl)
   (x:=([.nil],[],[])) (by kernel_rfl) rfl (by kernel_rfl)) ?_
 intro W base args ds gs before hval0 hW _ hk _
 have hval:∀ (j:Nat) t v,Tryz.f3.params[j]?=some t→args[j]?=some v→Value.okWide Tryz.prog W .any base t v:=hval0
 have hW':=hW
 obtain⟨p,q,hA0,hV,rfl,_,_⟩:=hW
 have hA:DataW.TrodAll enc Tryz.prog W 0 (fun _=>true) true Tryz.f3.params.toList args.toList ds p:=hA0
 rw[Tryz.params3] at hA hval
 obtain⟨v0,d0,rfl,rfl,h0⟩:=trodAll_one hA
 obtain⟨rfl,rfl⟩:=trodVars_none hV
 obtain⟨a0,len0,cap0,rfl⟩:=okWide_slice Tryz.underlying22 (hval 0 22 v0 rfl rfl)
 have k0:=h0
 have lt0:∀ x∈p,x.block<W.heap.size:=by obtain⟨m,hm⟩:=k0;exact DataW.trod_lt m _ _ _ hm
 have hs0:qv W a0 len0∧len0≤10000000:=by
  obtain⟨fuel,hf⟩:=h0
  obtain⟨hs,elems,sp,hd|hd⟩:=uG (by simpa [Value.cells] using hf)
  ·exact⟨hs,by rw[hd.2];omega⟩
  ·refine⟨hs,?_⟩
   obtain⟨rfl,hel⟩:=hd
   have hb:=xR hk
   omega
 clear hA0 hval0
 refine (BV W a0 len0 cap0 hs0.1 hs0.2).mono fun e W' ⟨he,bel⟩=>?_
 subst he
 exact⟨_,rfl,_,_,_,[],_,[],hW',trodAll_mk1 (shut_bool Tryz.underlying4 _),trodAll_mk1 (Below.trod Tryz.laidOut (by kernel_rfl) (of_decide_eq_true (by kernel_rfl)) k0 bel lt0),rfl,bel.frame _,fun h=>by cases h⟩
theorem allUpto_holds:Rows.AllUptoSaid:=
 OpenClaim.holds_of_cond 3 Tryz.f3 rfl rfl rfl rfl rfl rfl rfl ⟨rfl,rfl,rfl,rfl,rfl⟩ rfl rfl rfl rfl rfl (by kernel_rfl) Tryz.func3 (by kernel_rfl)
  (of_decide_eq_true (by kernel_rfl)) (by unfold Func.isWrapper;first|(rw[if_pos (by decide +kernel)];kernel_rfl)|(rw[if_neg (by decide +kernel)];exact⟨rfl,rfl⟩))
  (fun os started H enc _ F=>wX os started H enc F)
#print axioms allUpto_holds
end Go.Proofs.YthlhbjnkohinmabGreat
