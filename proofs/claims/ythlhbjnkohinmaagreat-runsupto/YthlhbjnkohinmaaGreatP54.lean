import Derived.Test.YthlhbjnkohinmaaGreatP53
import Derived.Test.YthlhbjnkohinmaaGreatP47
import Derived.Test.YthlhbjnkohinmaaGreatP23
import Derived.JoinedCond
namespace Go.Proofs.YthlhbjnkohinmaaGreat
set_option maxRecDepth 100000
set_option maxHeartbeats 8000000
open Go.RowKit
theorem ey.at {bw i r:Nat}{Ps:List Pg}{f:List Nat}{w:World}(h:ey bw Ps w f)(hn:f.Nodup)(hg:uV i Ps)(hr:r<Ps.length)(hi:i≤100000000):
  ∃ v ps,w.heap[bw]?=some (.cells #[v] 28 (0,0))∧w.ownsRow 0 33 1 v Ps.length ps∧∃ g x y f1 f2,ps[r]?=some (.pointer (some ⟨g,0,none⟩))∧dm g x y Ps[r].1 Ps[r].2.1 Ps[r].2.2 f1 f2 i w∧
    ∀ W w',Fr [] w W→lj g i (g::(f1++f2)) W w'→zc bw i Ps.length f w w':=by
 have hwi:=ey.within _ _ h
 obtain⟨v,ps,f2,f3,h1,h2,h3,rfl⟩:=h
 have hl:ps.length=Ps.length:=aB.len h3
 obtain⟨fa,fg,fb,hp,e3,hput⟩:=aB.focus wB.framed h3 r (by omega) hr
 subst e3
 obtain⟨g,x,y,k1,k2,e,hpa,rfl⟩:=hp
 refine⟨v,ps,h1,h2.1,g,x,y,k1,k2,by rw[List.getElem?_eq_getElem (by omega),e],⟨hpa,?_,hg _ (List.getElem_mem hr),hi⟩,?_⟩
 ·have:(g::(k1++k2)).Sublist (bw::(f2++(fa++(g::(k1++k2)++fb)))):=
   ((((List.sublist_append_left _ fb).trans (List.sublist_append_right fa _)).trans (List.sublist_append_right f2 _))).trans (List.sublist_cons_self bw _)
  exact hn.sublist this
 ·rintro W w' hW ⟨q',hq,hgq⟩
  obtain⟨fg',a,n,s,r1⟩:=hq.before hW
  have hn2:((bw::(f2++fa))++((g::(k1++k2))++fb)).Nodup:=by simpa using hn
  have hdis:∀ k,k∈bw::(f2++fa)∨k∈fb→k∉g::(k1++k2):=by
   intro k hk hk2
   rw[List.nodup_append,List.nodup_append] at hn2
   obtain⟨_,⟨_,_,d2⟩,d1⟩:=hn2
   rcases hk with hk|hk
   ·exact d1 k hk k (List.mem_append_left _ hk2) rfl
   ·exact d2 k hk2 k hk rfl
  have hE:=hput _ _ _ _ _ a r1 (fun k hk=>hdis k (.inl (by simp[hk]))) (fun k hk=>hdis k (.inr hk))
  have hps:ps.set r (.pointer (some ⟨g,0,none⟩))=ps:=by rw[←e];simp
  rw[hps] at hE
  refine⟨Ps.set r q',⟨bw::(f2++(fa++(fg'++fb))),⟨v,ps,f2,_,(r1.block bw (lt_of_block h1) (hdis bw (.inl (by simp)))).trans h1,?_,hE,rfl⟩,?_,?_,?_⟩,?_,by simp⟩
  ·have:=bp.framed _ _ _ _ _ h2 r1 (fun k hk=>hdis k (.inl (by simp[hk])))
   simpa using this
  ·have:=ed (fa:=bw::(f2++fa)) (g:=g::(k1++k2)) (g':=fg') (fb:=fb) (N:=w.heap.size) hn2 (fun k hk=>hwi k (by simpa using hk)) n s
   simpa using this
  ·intro k hk
   have:k∈fg'→k∈g::(k1++k2)∨w.heap.size≤k:=s k
   simp only[List.mem_cons,List.mem_append] at hk this ⊢
   grind
  ·exact r1.mono (fun k hk=>.inl (by simp only[List.mem_cons,List.mem_append] at hk ⊢;grind))
  ·intro q hq
   rcases List.mem_or_eq_of_mem_set hq with hq|rfl
   ·exact (hg q hq).mono (Nat.le_succ i)
   ·exact hgq
theorem zc.before {bw i n:Nat}{f:List Nat}{w w0 w':World}(h:zc bw i n f w0 w')(hf:Fr [] w w0):zc bw i n f w w':=by
 obtain⟨Ps',h1,h2,h3⟩:=h
 exact⟨Ps',h1.before hf,h2,h3⟩
theorem Be (bw i:Nat)(Ps:List Pg)(f:List Nat)(k a b c:Int)(s:ByteArray)(w:World)(hI:ey bw Ps w f)(hn:f.Nodup)(hg:uV i Ps)(hi:i≤100000000)(hl:Ps.length≤9223372036854775807)(ha:-9223372036854775808≤a)(ha2:a≤9223372036854775807):
  Calls Tryz.prog 11 #[.pointer (some ⟨bw,0,none⟩),eA k a b c s] w fun e w'=>(∃ bl,e=.returned (.bool bl))∧Fr [] w w':=by
 by_cases hk:k=7
 ·subst hk
  by_cases hm:Ps=[]
  ·subst hm
   obtain⟨v,ps,f2,f3,h1,h2,h3,rfl⟩:=hI
   obtain⟨av,mv,cv,rfl⟩:=an h2.1
   have em:=ar h2.1
   have c0:=cell_of_one h1
   have hlb:=lt_of_block h1
   have hz:bw≠w.heap.size:=by omega
   simp at em
   subst em
   clear h1 h2 h3 hn hg
   go_enter Tryz.func11,Tryz.ntmps11
   go_wp2
   go_ret
   exact⟨⟨_,rfl⟩,aA w _⟩
  ·have hpos:0<Ps.length:=List.length_pos_iff.mpr hm
   have hr:=uW a hpos
   obtain⟨v,ps,h1,h2,g,x,y,f1,f2,hpr,hst,_⟩:=ey.at hI hn hg hr hi
   obtain⟨rv,cv,kv,ov,cs,qs,hst2⟩:=hst.pair.doc
   obtain⟨_,_,⟨hyb,_⟩,⟨_,_,_,⟨_,_,_,⟨_,_,_,⟨_,_,hkr,_,_⟩,_⟩,_⟩,_⟩,_⟩:=hst2
   obtain⟨ak,mk,ck,rfl⟩:=an hkr.1
   have ek:=ar hkr.1
   subst ek
   obtain⟨av,mv,cv',rfl⟩:=an h2
   have em:=ar h2
   subst em
   have c0:=cell_of_one h1
   have hlb:=lt_of_block h1
   have hz:bw≠w.heap.size:=by omega
   have hm':((Ps.length:Int)==0)=false:=by simp;exact hm
   have HPK:=af (fun W=>v8 a Ps.length W ha ha2 hpos hl)
   rw[←vI a hpos] at HPK
   obtain⟨gr,rfl,_,hgb,hgl,hcell⟩:=aE h2 hpos
   have d0:=hcell _ _ hpr
   have d1:w.cell? ⟨g,1,none⟩=some (.pointer (some ⟨y,0,none⟩)):=by rw[cell_of_row _ _ _ _ _ _ hst.pair.block];rfl
   have d2:w.cell? ⟨y,3,none⟩=some (.slice ak Ps[mX a Ps.length].2.2.kept.length ck):=by rw[cell_of_row _ _ _ _ _ _ hyb];rfl
   have y1l:=lt_of_block hst.pair.block
   have y2l:=lt_of_block hyb
   have z1:gr≠w.heap.size:=by omega
   have z2:g≠w.heap.size:=by omega
   have z3:y≠w.heap.size:=by omega
   have hkl:=hst.good.keptLen
   obtain⟨kl,hkl2⟩:∃ kl,kl=Ps[mX a Ps.length].2.2.kept.length:=⟨_,rfl⟩
   rw[←hkl2] at d2 hkl
   obtain⟨pn,hpn⟩:∃ pn,pn=mX a Ps.length:=⟨_,rfl⟩
   rw[←hpn] at d0 HPK hr
   clear hcell h1 h2 hst hyb hkr hkl2 hpn hm hI hg hn hpr
   by_cases hlate:(kl:Int)+60>999
   ·go_enter Tryz.func11,Tryz.ntmps11
    go_wp2
    go_quiet ((go_at_call 13;exact Calls.quiet_of_same (HPK.out _)))
    go_wp2
    go_ret
    exact⟨⟨_,rfl⟩,(aA w _).drewN _⟩
   ·go_enter Tryz.func11,Tryz.ntmps11
    go_wp2
    go_quiet ((go_at_call 13;exact Calls.quiet_of_same (HPK.out _)))
    go_wp2
    go_ret
    exact⟨⟨_,rfl⟩,(aA w _).drewN _⟩
 ·have hk':(k != 7)=true:=by simpa using hk
  clear hI hn hg
  go_enter Tryz.func11,Tryz.ntmps11
  go_wp2
  go_ret
  exact⟨⟨_,rfl⟩,aA w _⟩
theorem BK (bw i:Nat)(Ps:List Pg)(f:List Nat)(k a b c:Int)(s:ByteArray)(w:World)(hI:ey bw Ps w f)(hn:f.Nodup)(hg:uV i Ps)(hi:i≤100000000)(hl:(Ps.length+1)*8≤140737488355328)(ha:-9223372036854775808≤a)(ha2:a≤9223372036854775807)(hs:s.size≤maxLen):
  Calls Tryz.prog 10 #[.pointer (some ⟨bw,0,none⟩),eA k a b c s] w fun e w'=>e=.returned (.bool true)∧zc bw i Ps.length f w w':=by
 have hs63:s.size<9223372036854775808:=by unfold maxLen at hs;omega
 by_cases hk1:k=1
 ·subst hk1
  have HM:=af (fun o=>AA bw i Ps f s c (w.alloc o) (ey.framed _ _ hI (aA w o) (by simp)) hn hg hs hl)
  clear hI hg
  go_enter Tryz.func10,Tryz.ntmps10
  go_wp2_with fail
  go_at_call 12
  refine (HM.out _).mono ?_
  rintro e w1 ⟨rfl,hw⟩
  have HW:=af hw
  clear hw
  go_wp2
  go_ret
  exact⟨rfl,HW.out.before (aA w _)⟩
 ·have hk2:(k==1)=false:=by simpa using hk1
  by_cases hz:Ps=[]∨k<1
  ·have HS:Hid (∀ w',Fr [] w w'→zc bw i Ps.length f w w'):=af (fun w' hw=>zc.same hI hn hg hw)
   obtain⟨v,ps,f2,f3,h1,h2,h3,rfl⟩:=hI
   obtain⟨av,mv,cv,rfl⟩:=an h2.1
   have em:=ar h2.1
   have c0:=cell_of_one h1
   have hlb:=lt_of_block h1
   have hzz:bw≠w.heap.size:=by omega
   subst em
   clear h1 h2 h3 hn hg hk1
   by_cases hm:Ps.length=0
   ·rw[hm] at c0
    clear hz
    go_enter Tryz.func10,Tryz.ntmps10
    go_wp2
    go_ret
    exact⟨rfl,HS.out _ (aA w _)⟩
   ·have hk3:k<1:=by
     rcases hz with h|h
     ·rw[h] at hm;simp at hm
     ·exact h
    have hm':((Ps.length:Int)==0)=false:=by simp;intro e;rw[e] at hm;simp at hm
    clear hm hz
    go_enter Tryz.func10,Tryz.ntmps10
    go_wp2
    go_ret
    exact⟨rfl,HS.out _ (aA w _)⟩
  ·have hm:Ps≠[]:=fun e=>hz (.inl e)
   have hk3:2≤k:=by have:¬k<1:=fun e=>hz (.inr e);omega
   have hpos:0<Ps.length:=List.length_pos_iff.mpr hm
   have hr:=uW a hpos
   obtain⟨v,ps,h1,h2,g,x,y,f1,f2,hpr,hst,hgo⟩:=ey.at hI hn hg hr hi
   obtain⟨av,mv,cv',rfl⟩:=an h2
   have em:=ar h2
   subst em
   have c0:=cell_of_one h1
   have hlb:=lt_of_block h1
   have hzz:bw≠w.heap.size:=by omega
   have hm':((Ps.length:Int)==0)=false:=by simp;exact hm
   have hk4:¬k<1:=by omega
   have HPK:=af (fun W=>v8 a Ps.length W ha ha2 hpos (by omega))
   rw[←vI a hpos] at HPK
   obtain⟨gr,rfl,_,hgb,hgl,hcell⟩:=aE h2 hpos
   have d0:=hcell _ _ hpr
   have z1:gr≠w.heap.size:=by omega
   by_cases hk:k≤6
   ·have HPS:=af (fun W (hW:Fr [] w W)=>wm k a b c s (hst.grown hW) hs63 hk3 hk)
    have HGO:=af hgo
    obtain⟨pn,hpn⟩:∃ pn,pn=mX a Ps.length:=⟨_,rfl⟩
    rw[←hpn] at d0 HPK hr
    clear hcell h1 h2 hst hgo hpn hm hI hg hn hpr hz hk1
    go_enter Tryz.func10,Tryz.ntmps10
    go_wp2_with fail
    go_quiet ((go_at_call 13;exact Calls.quiet_of_same (HPK.out _)))
    go_wp2_with fail
    go_at_call 14
    refine (HPS.out _ ((aA w _).drewN _)).mono ?_
    rintro e w1 ⟨rfl,hp⟩
    have HP:=af hp
    clear hp
    go_wp2
    go_ret
    exact⟨rfl,HGO.out _ _ ((aA w _).drewN _) HP.out⟩
   ·have hk7:7≤k:=by omega
    have HPS:=af (fun W (hW:Fr [] w W)=>Aw k a b c s (hst.grown hW) hk7)
    have HGO:=af hgo
    obtain⟨pn,hpn⟩:∃ pn,pn=mX a Ps.length:=⟨_,rfl⟩
    rw[←hpn] at d0 HPK hr
    clear hcell h1 h2 hst hgo hpn hm hI hg hn hpr hz hk1
    go_enter Tryz.func10,Tryz.ntmps10
    go_wp2_with fail
    go_quiet ((go_at_call 13;exact Calls.quiet_of_same (HPK.out _)))
    go_wp2_with fail
    go_at_call 15
    refine (HPS.out _ ((aA w _).drewN _)).mono ?_
    rintro e w1 ⟨rfl,hp⟩
    have HP:=af hp
    clear hp
    go_wp2
    go_ret
    exact⟨rfl,HGO.out _ _ ((aA w _).drewN _) HP.out⟩
structure kU (B:Nat)(w:World)(i:Nat)(wr:World)(Ps:List Pg)(f:List Nat):Prop where
 inv:ey B Ps wr f
 nodup:f.Nodup
 above:∀ g∈f,B≤g
 good:uV i Ps
 few:Ps.length≤i
 below:Below B w wr
 room:B<wr.heap.size
theorem kU.quiet {B:Nat}{w:World}{i:Nat}{wr wr':World}{Ps:List Pg}{f:List Nat}(h:kU B w i wr Ps f)(hf:Fr [] wr wr'):kU B w i wr' Ps f:=
 ⟨ey.framed _ _ h.inv hf (by simp),h.nodup,h.above,h.good,h.few,h.below.trans (hf.below (Nat.le_of_lt h.room) (by simp)),Nat.lt_of_lt_of_le h.room hf.size⟩
theorem kU.next {B:Nat}{w:World}{i:Nat}{wr:World}{Ps:List Pg}{f:List Nat}(h:kU B w i wr Ps f):kU B w (i+1) wr Ps f:=
 ⟨h.inv,h.nodup,h.above,fun q hq=>(h.good q hq).mono (Nat.le_succ i),Nat.le_succ_of_le h.few,h.below,h.room⟩
theorem kU.step {B:Nat}{w:World}{i:Nat}{wr wr':World}{Ps:List Pg}{f:List Nat}(h:kU B w i wr Ps f)(ht:zc B i Ps.length f wr wr'):∃ Ps' f',kU B w (i+1) wr' Ps' f':=by
 obtain⟨Ps',⟨f',a,n,s,r⟩,hg,hl⟩:=ht
 have hroom:=h.room
 refine⟨Ps',f',a,n,fun g hg=>?_,hg,by have:=h.few;omega,h.below.trans (r.below (Nat.le_of_lt hroom) h.above),Nat.lt_of_lt_of_le hroom r.size⟩
 rcases s g hg with h1|h1
 ·exact h.above g h1
 ·omega
theorem Bn (last lo hi:Int)(w:World)(sb off len cap:Nat)(hsb:sb<w.heap.size)(hlen:len≤10000000)(hscr:∀ t,t<len→∃ k a b c s,DH w sb (off+t*5) k a b c s):
  Calls Tryz.prog 9 #[.slice (some ⟨sb,off,none⟩) len cap,.int .i64 last,.bool true,.int .i64 lo,.int .i64 hi] w fun e w'=>e=.returned (.int .i64 (-1))∧Below w.heap.size w w':=by
 have HS:=af hscr
 clear hscr
 go_enter Tryz.func9,Tryz.ntmps9
 go_wp2_with fail
 go_loopw [12] (fun t wr=>∃ (k:Nat) (Ps:List Pg) (f:List Nat),k≤len∧t=.int .i64 k∧kU w.heap.size w k wr Ps f) (fun t _=>len - (intOf t).toNat)
 case atStart=>
  refine⟨0,[],[w.heap.size],Nat.zero_le _,rfl,⟨⟨_,[],[],[],heap_alloc_new w _,bp.nil _ _ _,rfl,rfl⟩,by simp,by simp,by simp,by simp,(Below.refl _ w).alloc (Nat.le_refl _) _,by simp⟩⟩
 case round=>
  obtain⟨k,Ps,f,hk,rfl,hL⟩:=hrel
  have HL:=af hL
  clear hL
  by_cases hlt:k<len
  ·obtain⟨kk,aa,bb,cc,s,c0,c1,c2,c3,c4,a1,a2,hs⟩:=HS.out k hlt
   have hBe:=HL.out.below
   have hroom:=HL.out.room
   have d0:=(hBe.cell (p:=⟨sb,off+k*5,none⟩) hsb).trans c0
   have d1:=(hBe.cell (p:=⟨sb,off+k*5+1,none⟩) hsb).trans c1
   have d2:=(hBe.cell (p:=⟨sb,off+k*5+2,none⟩) hsb).trans c2
   have d3:=(hBe.cell (p:=⟨sb,off+k*5+3,none⟩) hsb).trans c3
   have d4:=(hBe.cell (p:=⟨sb,off+k*5+4,none⟩) hsb).trans c4
   clear c0 c1 c2 c3 c4 hBe
   have hsbz:sb≠wr.heap.size:=by omega
   have hwz:w.heap.size≠wr.heap.size:=by omega
   have hfl:∀ g∈f,g<wr.heap.size:=ey.within _ _ HL.out.inv
   have hzf:wr.heap.size∉f:=fun e=>by have:=hfl _ e;omega
   have HZF:=af hzf
   clear hfl hzf
   have HLATE:Hid (∀ (c':Int) W,Fr [] wr W→Calls Tryz.prog 11 #[.pointer (some ⟨w.heap.size,0,none⟩),eA kk aa bb c' s] W fun e w'=>(∃ bl,e=.returned (.bool bl))∧Fr [] W w'):=af (fun c' W hW=>by
    have hq:=HL.out.quiet hW
    have:=hq.few
    exact Be w.heap.size k Ps f kk aa bb c' s W hq.inv hq.nodup hq.good (by omega) (by omega) a1 a2)
   have HSTEP:Hid (∀ (c':Int) W,Fr [] wr W→Calls Tryz.prog 10 #[.pointer (some ⟨w.heap.size,0,none⟩),eA kk aa bb c' s] W fun e w'=>e=.returned (.bool true)∧(∃ Ps' f',kU w.heap.size w (k+1) w' Ps' f')∧Fr f W w'):=af (fun c' W hW=>by
    have hq:=HL.out.quiet hW
    have:=hq.few
    refine (BK w.heap.size k Ps f kk aa bb c' s W hq.inv hq.nodup hq.good (by omega) (by omega) a1 a2 hs).mono ?_
    rintro e w' ⟨rfl,ht⟩
    refine⟨rfl,hq.step ht,?_⟩
    obtain⟨_,⟨_,_,_,_,r⟩,_⟩:=ht
    exact r)
   by_cases hk1:kk=1
   ·subst hk1
    go_wp2_with fail
    go_at_call 11
    refine (HLATE.out 999 _ (aA wr _)).mono ?_
    rintro e w1 ⟨⟨bl,rfl⟩,hf1⟩
    have HF1:=af ((aA wr (Fs 1 aa bb 999 s)).trans hf1)
    have e0:=aC hf1 (cd (w:=wr) (cs:=#[.int .i64 1,.int .i64 aa,.int .i64 bb,.int .i64 999,.string s]) (t:=30) (j:=0) rfl)
    have e1:=aC hf1 (cd (w:=wr) (cs:=#[.int .i64 1,.int .i64 aa,.int .i64 bb,.int .i64 999,.string s]) (t:=30) (j:=1) rfl)
    have e2:=aC hf1 (cd (w:=wr) (cs:=#[.int .i64 1,.int .i64 aa,.int .i64 bb,.int .i64 999,.string s]) (t:=30) (j:=2) rfl)
    have e3:=aC hf1 (cd (w:=wr) (cs:=#[.int .i64 1,.int .i64 aa,.int .i64 bb,.int .i64 999,.string s]) (t:=30) (j:=3) rfl)
    have e4:=aC hf1 (cd (w:=wr) (cs:=#[.int .i64 1,.int .i64 aa,.int .i64 bb,.int .i64 999,.string s]) (t:=30) (j:=4) rfl)
    clear d0 d1 d2 d3 d4 hf1 HLATE
    by_cases hgt:1>last
    ·go_wp2_with fail
     go_roundw
     case rel=>exact⟨k+1,Ps,f,by omega,by go_num,(HL.out.quiet HF1.out).next⟩
     case measure=>simp[intOf];omega
    ·cases bl with
     |true=>
      go_wp2_with fail
      go_roundw
      case rel=>exact⟨k+1,Ps,f,by omega,by go_num,(HL.out.quiet HF1.out).next⟩
      case measure=>simp[intOf];omega
     |false=>
      go_wp2_with fail
      go_at_call 10
      refine (HSTEP.out 999 _ HF1.out).mono ?_
      rintro e w2 ⟨rfl,hlp,hf2⟩
      have HLP:=af hlp
      have g0:=bD hf2 e0 HZF.out
      clear hlp hf2 e0 e1 e2 e3 e4 HSTEP
      go_wp2_with fail
      go_roundw
      case rel=>
       obtain⟨Ps',f',hl'⟩:=HLP.out
       exact⟨k+1,Ps',f',by omega,by go_num,hl'⟩
      case measure=>simp[intOf];omega
   ·have hk2:(kk==1)=false:=by simpa using hk1
    clear hk1
    go_wp2_with fail
    go_at_call 11
    refine (HLATE.out cc _ (aA wr _)).mono ?_
    rintro e w1 ⟨⟨bl,rfl⟩,hf1⟩
    have HF1:=af ((aA wr (Fs kk aa bb cc s)).trans hf1)
    have e0:=aC hf1 (cd (w:=wr) (cs:=#[.int .i64 kk,.int .i64 aa,.int .i64 bb,.int .i64 cc,.string s]) (t:=30) (j:=0) rfl)
    have e1:=aC hf1 (cd (w:=wr) (cs:=#[.int .i64 kk,.int .i64 aa,.int .i64 bb,.int .i64 cc,.string s]) (t:=30) (j:=1) rfl)
    have e2:=aC hf1 (cd (w:=wr) (cs:=#[.int .i64 kk,.int .i64 aa,.int .i64 bb,.int .i64 cc,.string s]) (t:=30) (j:=2) rfl)
    have e3:=aC hf1 (cd (w:=wr) (cs:=#[.int .i64 kk,.int .i64 aa,.int .i64 bb,.int .i64 cc,.string s]) (t:=30) (j:=3) rfl)
    have e4:=aC hf1 (cd (w:=wr) (cs:=#[.int .i64 kk,.int .i64 aa,.int .i64 bb,.int .i64 cc,.string s]) (t:=30) (j:=4) rfl)
    clear d0 d1 d2 d3 d4 hf1 HLATE
    by_cases hgt:kk>last
    ·go_wp2_with fail
     go_roundw
     case rel=>exact⟨k+1,Ps,f,by omega,by go_num,(HL.out.quiet HF1.out).next⟩
     case measure=>simp[intOf];omega
    ·cases bl with
     |true=>
      go_wp2_with fail
      go_roundw
      case rel=>exact⟨k+1,Ps,f,by omega,by go_num,(HL.out.quiet HF1.out).next⟩
      case measure=>simp[intOf];omega
     |false=>
      go_wp2_with fail
      go_at_call 10
      refine (HSTEP.out cc _ HF1.out).mono ?_
      rintro e w2 ⟨rfl,hlp,hf2⟩
      have HLP:=af hlp
      have g0:=bD hf2 e0 HZF.out
      clear hlp hf2 e0 e1 e2 e3 e4 HSTEP
      by_cases hlo:lo≤kk
      ·by_cases hhi:kk≤hi
       ·go_wp2_with fail
        go_roundw
        case rel=>
         obtain⟨Ps',f',hl'⟩:=HLP.out
         exact⟨k+1,Ps',f',by omega,by go_num,hl'⟩
        case measure=>simp[intOf];omega
       ·go_wp2_with fail
        go_roundw
        case rel=>
         obtain⟨Ps',f',hl'⟩:=HLP.out
         exact⟨k+1,Ps',f',by omega,by go_num,hl'⟩
        case measure=>simp[intOf];omega
      ·go_wp2_with fail
       go_roundw
       case rel=>
        obtain⟨Ps',f',hl'⟩:=HLP.out
        exact⟨k+1,Ps',f',by omega,by go_num,hl'⟩
       case measure=>simp[intOf];omega
  ·go_wp2
   go_ret
   exact⟨rfl,HL.out.below⟩
open Go.ChangeShapes Go.WideShapes Go.ChangeAt Go.RowKit Go.Deep
theorem BL (w:World)(a:Option Addr)(len cap:Nat)(last lo hi:Int)(h:nF w a len)(hlen:len≤10000000):
  Calls Tryz.prog 9 #[.slice a len cap,.int .i64 last,.bool true,.int .i64 lo,.int .i64 hi] w fun e w'=>e=.returned (.int .i64 (-1))∧Below w.heap.size w w':=by
 rcases h with rfl|⟨sb,off,rfl,h1,h2⟩
 ·exact A6 w a cap last lo hi
 ·exact Bn last lo hi w sb off len cap h1 hlen h2
theorem Ay (w:World)(a:Option Addr)(len cap:Nat)(h:nF w a len)(hlen:len≤10000000):
  Calls Tryz.prog 7 #[.slice a len cap] w fun e w'=>e=.returned (.bool true)∧Below w.heap.size w w':=by
 have HU:=af (BL w a len cap 9 5 9 h hlen)
 clear h
 go_enter Tryz.func7,Tryz.ntmps7
 go_wp2_with fail
 go_at_call 9
 refine HU.out.mono ?_
 rintro e w1 ⟨rfl,hb⟩
 have HB:=af hb
 clear hb
 go_wp2
 go_ret
 exact⟨rfl,HB.out⟩
theorem vB (os:Os)(started:os.Started)(H:Type)(enc:TypeId×Value→H)(F:Stop.Interp):
  ReturnsInHanded {} Tryz.checked os 7 .any ((Rows.OpenSpec.upto Rows.runsSpec).pre6 enc Tryz.prog Tryz.f7 Rows.runsUptoRow.domain false) (((Rows.OpenSpec.upto Rows.runsSpec).at F).post enc Tryz.prog Tryz.f7 false true false false):=by
 refine returnsInHanded_of_cond (C:=Tryz.checked) (s:=Rows.OpenSpec.upto Rows.runsSpec) (k:=Rows.uptoSmall) rfl Tryz.own started (by kernel_rfl) Tryz.func7
  (OpenSpec.witness (enc:=enc) (C:=Tryz.checked) (s:=Rows.OpenSpec.upto Rows.runsSpec) (k:=Rows.uptoSmall) rfl false ⟨#[],#[.slice none 0 0],[]⟩ 8 (by kernel_rfl) (by kernel_rfl) (by kernel_rfl)
   (x:=([.nil],[],[])) (by kernel_rfl) rfl (by kernel_rfl)) ?_
 intro W base args ds gs before hval0 hW _ hk _
 have hval:∀ (j:Nat) t v,Tryz.f7.params[j]?=some t→args[j]?=some v→Value.okWide Tryz.prog W .any base t v:=hval0
 have hW':=hW
 obtain⟨p,q,hA0,hV,rfl,_,_⟩:=hW
 have hA:DataW.TrodAll enc Tryz.prog W 0 (fun _=>true) true Tryz.f7.params.toList args.toList ds p:=hA0
 rw[Tryz.params7] at hA hval
 obtain⟨v0,d0,rfl,rfl,h0⟩:=trodAll_one hA
 obtain⟨rfl,rfl⟩:=trodVars_none hV
 obtain⟨a0,len0,cap0,rfl⟩:=okWide_slice Tryz.underlying22 (hval 0 22 v0 rfl rfl)
 have k0:=h0
 have lt0:∀ x∈p,x.block<W.heap.size:=by obtain⟨m,hm⟩:=k0;exact DataW.trod_lt m _ _ _ hm
 have hs0:nF W a0 len0∧len0≤10000000:=by
  obtain⟨fuel,hf⟩:=h0
  obtain⟨hs,elems,sp,hd|hd⟩:=vQ (by simpa [Value.cells] using hf)
  ·exact⟨hs,by rw[hd.2];omega⟩
  ·refine⟨hs,?_⟩
   obtain⟨rfl,hel⟩:=hd
   have hb:=xm hk
   omega
 clear hA0 hval0
 refine (Ay W a0 len0 cap0 hs0.1 hs0.2).mono fun e W' ⟨he,bel⟩=>?_
 subst he
 exact⟨_,rfl,_,_,_,[],_,[],hW',trodAll_mk1 (shut_bool Tryz.underlying4 _),trodAll_mk1 (Below.trod Tryz.laidOut (by kernel_rfl) (of_decide_eq_true (by kernel_rfl)) k0 bel lt0),rfl,bel.frame _,fun h=>by cases h⟩
theorem runsUpto_holds:Rows.RunsUptoSaid:=
 OpenClaim.holds_of_cond 7 Tryz.f7 rfl rfl rfl rfl rfl rfl rfl ⟨rfl,rfl,rfl,rfl,rfl⟩ rfl rfl rfl rfl rfl (by kernel_rfl) Tryz.func7 (by kernel_rfl)
  (of_decide_eq_true (by kernel_rfl)) (by unfold Func.isWrapper;first|(rw[if_pos (by decide +kernel)];kernel_rfl)|(rw[if_neg (by decide +kernel)];exact⟨rfl,rfl⟩))
  (fun os started H enc _ F=>vB os started H enc F)
#print axioms runsUpto_holds
end Go.Proofs.YthlhbjnkohinmaaGreat
