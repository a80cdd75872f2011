import Derived.Test.YthlhbjnkohinmaaGreatP50
import Derived.Test.YthlhbjnkohinmaaGreatP15
namespace Go.Proofs.YthlhbjnkohinmaaGreat
set_option maxRecDepth 100000
set_option maxHeartbeats 8000000
open Go.RowKit
theorem ey.at {bw i r:Nat} {Ps:List Pg} {f:List Nat} {w:World} (h:ey bw Ps w f) (hn:f.Nodup) (hg:uZ i Ps) (hr:r<Ps.length) (hi:i≤100000000) :
  ∃ v ps,w.heap[bw]?=some (.cells #[v] 28 (0,0))∧w.ownsRow 0 33 1 v Ps.length ps∧∃ g x y f1 f2,ps[r]?=some (.pointer (some ⟨g,0,none⟩))∧dl g x y Ps[r].1 Ps[r].2.1 Ps[r].2.2 f1 f2 i w∧
    ∀ W w',Fr [] w W→lh g i (g::(f1++f2)) W w'→yN bw i Ps.length f w w':=by
 have hwi:=ey.within _ _ h
 obtain⟨v,ps,f2,f3,h1,h2,h3,rfl⟩:=h
 have hl:ps.length=Ps.length:=aA.len h3
 obtain⟨fa,fg,fb,hp,e3,hput⟩:=aA.focus wu.framed h3 r (by omega) hr
 subst e3
 obtain⟨g,x,y,k1,k2,e,hpa,rfl⟩:=hp
 refine⟨v,ps,h1,h2.1,g,x,y,k1,k2,by rw[List.getElem?_eq_getElem (by omega),e],⟨hpa,?_,hg _ (List.getElem_mem hr),hi⟩,?_⟩
 ·have:(g::(k1++k2)).Sublist (bw::(f2++(fa++(g::(k1++k2)++fb)))):=
   ((((List.sublist_append_left _ fb).trans (List.sublist_append_right fa _)).trans (List.sublist_append_right f2 _))).trans (List.sublist_cons_self bw _)
  exact hn.sublist this
 ·rintro W w' hW ⟨q',hq,hgq⟩
  obtain⟨fg',a,n,s,r1⟩:=hq.before hW
  have hn2:((bw::(f2++fa))++((g::(k1++k2))++fb)).Nodup:=by simpa using hn
  have hdis:∀ k,k∈bw::(f2++fa)∨k∈fb→k∉g::(k1++k2):=by
   intro k hk hk2
   rw[List.nodup_append,List.nodup_append] at hn2
   obtain⟨_,⟨_,_,d2⟩,d1⟩:=hn2
   rcases hk with hk|hk
   ·exact d1 k hk k (List.mem_append_left _ hk2) rfl
   ·exact d2 k hk2 k hk rfl
  have hE:=hput _ _ _ _ _ a r1 (fun k hk=>hdis k (.inl (by simp[hk]))) (fun k hk=>hdis k (.inr hk))
  have hps:ps.set r (.pointer (some ⟨g,0,none⟩))=ps:=by rw[←e];simp
  rw[hps] at hE
  refine⟨Ps.set r q',⟨bw::(f2++(fa++(fg'++fb))),⟨v,ps,f2,_,(r1.block bw (lt_of_block h1) (hdis bw (.inl (by simp)))).trans h1,?_,hE,rfl⟩,?_,?_,?_⟩,?_,by simp⟩
  ·have:=bn.framed _ _ _ _ _ h2 r1 (fun k hk=>hdis k (.inl (by simp[hk])))
   simpa using this
  ·have:=eb (fa:=bw::(f2++fa)) (g:=g::(k1++k2)) (g':=fg') (fb:=fb) (N:=w.heap.size) hn2 (fun k hk=>hwi k (by simpa using hk)) n s
   simpa using this
  ·intro k hk
   have:k∈fg'→k∈g::(k1++k2)∨w.heap.size≤k:=s k
   simp only[List.mem_cons,List.mem_append] at hk this ⊢
   grind
  ·exact r1.mono (fun k hk=>.inl (by simp only[List.mem_cons,List.mem_append] at hk ⊢;grind))
  ·intro q hq
   rcases List.mem_or_eq_of_mem_set hq with hq|rfl
   ·exact (hg q hq).mono (Nat.le_succ i)
   ·exact hgq
theorem yN.before {bw i n:Nat} {f:List Nat} {w w0 w':World} (h:yN bw i n f w0 w') (hf:Fr [] w w0):yN bw i n f w w':=by
 obtain⟨Ps',h1,h2,h3⟩:=h
 exact⟨Ps',h1.before hf,h2,h3⟩
theorem zC (bw i:Nat) (Ps:List Pg) (f:List Nat) (k a b c:Int) (s:ByteArray) (w:World) (hI:ey bw Ps w f) (hn:f.Nodup) (hg:uZ i Ps) (hi:i≤100000000) (hl:Ps.length≤9223372036854775807) (ha:-9223372036854775808≤a) (ha2:a≤9223372036854775807) :
  Calls Tryz.prog 11 #[.pointer (some ⟨bw,0,none⟩),ex k a b c s] w fun e w'=>(∃ bl,e=.returned (.bool bl))∧Fr [] w w':=by
 by_cases hk:k=7
 ·subst hk
  by_cases hm:Ps=[]
  ·subst hm
   obtain⟨v,ps,f2,f3,h1,h2,h3,rfl⟩:=hI
   obtain⟨av,mv,cv,rfl⟩:=an h2.1
   have em:=ar h2.1
   have c0:=cell_of_one h1
   have hlb:=lt_of_block h1
   have hz:bw≠w.heap.size:=by omega
   simp at em
   subst em
   clear h1 h2 h3 hn hg
   go_enter Tryz.func11,Tryz.ntmps11
   go_wp2
   go_ret
   exact⟨⟨_,rfl⟩,az w _⟩
  ·have hpos:0<Ps.length:=List.length_pos_iff.mpr hm
   have hr:=vS a hpos
   obtain⟨v,ps,h1,h2,g,x,y,f1,f2,hpr,hst,_⟩:=ey.at hI hn hg hr hi
   obtain⟨rv,cv,kv,ov,cs,qs,hst2⟩:=hst.pair.doc
   obtain⟨_,_,⟨hyb,_⟩,⟨_,_,_,⟨_,_,_,⟨_,_,_,⟨_,_,hkr,_,_⟩,_⟩,_⟩,_⟩,_⟩:=hst2
   obtain⟨ak,mk,ck,rfl⟩:=an hkr.1
   have ek:=ar hkr.1
   subst ek
   obtain⟨av,mv,cv',rfl⟩:=an h2
   have em:=ar h2
   subst em
   have c0:=cell_of_one h1
   have hlb:=lt_of_block h1
   have hz:bw≠w.heap.size:=by omega
   have hm':((Ps.length:Int)==0)=false:=by simp;exact hm
   have HPK:=af (fun W=>uu a Ps.length W ha ha2 hpos hl)
   rw[←ve a hpos] at HPK
   obtain⟨gr,rfl,_,hgb,hgl,hcell⟩:=aC h2 hpos
   have d0:=hcell _ _ hpr
   have d1:w.cell? ⟨g,1,none⟩=some (.pointer (some ⟨y,0,none⟩)):=by rw[cell_of_row _ _ _ _ _ _ hst.pair.block];rfl
   have d2:w.cell? ⟨y,3,none⟩=some (.slice ak Ps[na a Ps.length].2.2.kept.length ck):=by rw[cell_of_row _ _ _ _ _ _ hyb];rfl
   have y1l:=lt_of_block hst.pair.block
   have y2l:=lt_of_block hyb
   have z1:gr≠w.heap.size:=by omega
   have z2:g≠w.heap.size:=by omega
   have z3:y≠w.heap.size:=by omega
   have hkl:=hst.good.keptLen
   obtain⟨kl,hkl2⟩:∃ kl,kl=Ps[na a Ps.length].2.2.kept.length:=⟨_,rfl⟩
   rw[←hkl2] at d2 hkl
   obtain⟨pn,hpn⟩:∃ pn,pn=na a Ps.length:=⟨_,rfl⟩
   rw[←hpn] at d0 HPK hr
   clear hcell h1 h2 hst hyb hkr hkl2 hpn hm hI hg hn hpr
   by_cases hlate:(kl:Int)+60>999
   ·go_enter Tryz.func11,Tryz.ntmps11
    go_wp2
    go_quiet ((go_at_call 13;exact Calls.quiet_of_same (HPK.out _)))
    go_wp2
    go_ret
    exact⟨⟨_,rfl⟩,(az w _).drewN _⟩
   ·go_enter Tryz.func11,Tryz.ntmps11
    go_wp2
    go_quiet ((go_at_call 13;exact Calls.quiet_of_same (HPK.out _)))
    go_wp2
    go_ret
    exact⟨⟨_,rfl⟩,(az w _).drewN _⟩
 ·have hk':(k != 7)=true:=by simpa using hk
  clear hI hn hg
  go_enter Tryz.func11,Tryz.ntmps11
  go_wp2
  go_ret
  exact⟨⟨_,rfl⟩,az w _⟩
theorem Bg (bw i:Nat) (Ps:List Pg) (f:List Nat) (k a b c:Int) (s:ByteArray) (w:World) (hI:ey bw Ps w f) (hn:f.Nodup) (hg:uZ i Ps) (hi:i≤100000000) (hl:(Ps.length+1)*8≤140737488355328) (ha:-9223372036854775808≤a) (ha2:a≤9223372036854775807) (hs:s.size≤maxLen) :
  Calls Tryz.prog 10 #[.pointer (some ⟨bw,0,none⟩),ex k a b c s] w fun e w'=>e=.returned (.bool true)∧yN bw i Ps.length f w w':=by
 have hs63:s.size<9223372036854775808:=by unfold maxLen at hs;omega
 by_cases hk1:k=1
 ·subst hk1
  have HM:=af (fun o=>zQ bw i Ps f s c (w.alloc o) (ey.framed _ _ hI (az w o) (by simp)) hn hg hs hl)
  clear hI hg
  go_enter Tryz.func10,Tryz.ntmps10
  go_wp2_with fail
  go_at_call 12
  refine (HM.out _).mono ?_
  rintro e w1 ⟨rfl,hw⟩
  have HW:=af hw
  clear hw
  go_wp2
  go_ret
  exact⟨rfl,HW.out.before (az w _)⟩
 ·have hk2:(k==1)=false:=by simpa using hk1
  by_cases hz:Ps=[]∨k<1
  ·have HS:Hid (∀ w',Fr [] w w'→yN bw i Ps.length f w w'):=af (fun w' hw=>yN.same hI hn hg hw)
   obtain⟨v,ps,f2,f3,h1,h2,h3,rfl⟩:=hI
   obtain⟨av,mv,cv,rfl⟩:=an h2.1
   have em:=ar h2.1
   have c0:=cell_of_one h1
   have hlb:=lt_of_block h1
   have hzz:bw≠w.heap.size:=by omega
   subst em
   clear h1 h2 h3 hn hg hk1
   by_cases hm:Ps.length=0
   ·rw[hm] at c0
    clear hz
    go_enter Tryz.func10,Tryz.ntmps10
    go_wp2
    go_ret
    exact⟨rfl,HS.out _ (az w _)⟩
   ·have hk3:k<1:=by
     rcases hz with h|h
     ·rw[h] at hm;simp at hm
     ·exact h
    have hm':((Ps.length:Int)==0)=false:=by simp;intro e;rw[e] at hm;simp at hm
    clear hm hz
    go_enter Tryz.func10,Tryz.ntmps10
    go_wp2
    go_ret
    exact⟨rfl,HS.out _ (az w _)⟩
  ·have hm:Ps≠[]:=fun e=>hz (.inl e)
   have hk3:2≤k:=by have:¬k<1:=fun e=>hz (.inr e);omega
   have hpos:0<Ps.length:=List.length_pos_iff.mpr hm
   have hr:=vS a hpos
   obtain⟨v,ps,h1,h2,g,x,y,f1,f2,hpr,hst,hgo⟩:=ey.at hI hn hg hr hi
   obtain⟨av,mv,cv',rfl⟩:=an h2
   have em:=ar h2
   subst em
   have c0:=cell_of_one h1
   have hlb:=lt_of_block h1
   have hzz:bw≠w.heap.size:=by omega
   have hm':((Ps.length:Int)==0)=false:=by simp;exact hm
   have hk4:¬k<1:=by omega
   have HPK:=af (fun W=>uu a Ps.length W ha ha2 hpos (by omega))
   rw[←ve a hpos] at HPK
   obtain⟨gr,rfl,_,hgb,hgl,hcell⟩:=aC h2 hpos
   have d0:=hcell _ _ hpr
   have z1:gr≠w.heap.size:=by omega
   by_cases hk:k≤6
   ·have HPS:=af (fun W (hW:Fr [] w W)=>uk k a b c s (hst.grown hW) hs63 hk3 hk)
    have HGO:=af hgo
    obtain⟨pn,hpn⟩:∃ pn,pn=na a Ps.length:=⟨_,rfl⟩
    rw[←hpn] at d0 HPK hr
    clear hcell h1 h2 hst hgo hpn hm hI hg hn hpr hz hk1
    go_enter Tryz.func10,Tryz.ntmps10
    go_wp2_with fail
    go_quiet ((go_at_call 13;exact Calls.quiet_of_same (HPK.out _)))
    go_wp2_with fail
    go_at_call 14
    refine (HPS.out _ ((az w _).drewN _)).mono ?_
    rintro e w1 ⟨rfl,hp⟩
    have HP:=af hp
    clear hp
    go_wp2
    go_ret
    exact⟨rfl,HGO.out _ _ ((az w _).drewN _) HP.out⟩
   ·have hk7:7≤k:=by omega
    have HPS:=af (fun W (hW:Fr [] w W)=>AH k a b c s (hst.grown hW) hk7)
    have HGO:=af hgo
    obtain⟨pn,hpn⟩:∃ pn,pn=na a Ps.length:=⟨_,rfl⟩
    rw[←hpn] at d0 HPK hr
    clear hcell h1 h2 hst hgo hpn hm hI hg hn hpr hz hk1
    go_enter Tryz.func10,Tryz.ntmps10
    go_wp2_with fail
    go_quiet ((go_at_call 13;exact Calls.quiet_of_same (HPK.out _)))
    go_wp2_with fail
    go_at_call 15
    refine (HPS.out _ ((az w _).drewN _)).mono ?_
    rintro e w1 ⟨rfl,hp⟩
    have HP:=af hp
    clear hp
    go_wp2
    go_ret
    exact⟨rfl,HGO.out _ _ ((az w _).drewN _) HP.out⟩
end Go.Proofs.YthlhbjnkohinmaaGreat
