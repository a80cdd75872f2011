import Derived.Test.YthlhbjnkohinmaaGreatP13
import Derived.Handy
import Derived.Test.YthlhbjnkohinmaaGreatP12
namespace Go.Proofs.YthlhbjnkohinmaaGreat
set_option maxRecDepth 100000
set_option maxHeartbeats 8000000
open Go.RowKit
theorem Tryz.info96:(Tryz.prog.info? 96).map (fun i=>(i.zero,i.size,i.bytes))=some (some (.pointer none),1,8):=by kernel_rfl
theorem sN {w:World} {g:Nat} {x0 x1 x2 x3 x4 x5 u:Value} {t:TypeId} (h:w.heap[g]?=some (.cells #[x0,x1,x2,x3,x4,x5] t (0,0))):(w.setCell ⟨g,5,none⟩ u).heap[g]?=some (.cells #[x0,x1,x2,x3,x4,u] t (0,0)):=by
 obtain⟨hl,e⟩:=Array.getElem?_eq_some_iff.mp h
 simp[World.setCell,hl,Array.getElem_modify,e]
theorem nB {w:World} {g:Nat} {x0 x1 x2 x3 x4 x5 u:Value} {t:TypeId} (h:w.heap[g]?=some (.cells #[x0,x1,x2,x3,x4,x5] t (0,0))):(w.setCell ⟨g,4,none⟩ u).heap[g]?=some (.cells #[x0,x1,x2,x3,u,x5] t (0,0)):=by
 obtain⟨hl,e⟩:=Array.getElem?_eq_some_iff.mp h
 simp[World.setCell,hl,Array.getElem_modify,e]
theorem Dv {w:World} {a1:Option Addr} {m1 c1 g3 H:Nat} (h:(Value.slice a1 m1 c1).ownBlock=some g3∨g3=H) (hH:w.heap.size<H):a1.map (·.block)=some g3∨w.heap.size<g3:=by
 rcases h with h|h
 ·left
  cases a1 with
  |none=>simp[Value.ownBlock] at h
  |some a=>simpa [Value.ownBlock] using h
 ·exact .inr (by rw[h];exact hH)
theorem tY (y:Nat) (ol:Nat) (rv kv:Value) (room opened:Int) (ps:List Value) (ac:Option Addr) (mc cc:Nat) (a:Option Addr) (m cp:Nat) (w:World)
  (hb:w.heap[y]?=some (.cells #[rv,.int .i64 room,.slice ac mc cc,kv,.slice a m cp,.int .i64 opened] 40 (0,0))) (hrow:w.ownsRow 0 96 1 (.slice a m cp) ol ps) (hlen:ol<8) (ho:0≤opened∧opened<9223372036854775807) (_hmc:mc≤9223372036854775807) :
  Calls Tryz.prog 20 #[.pointer (some ⟨y,0,none⟩)] w fun e w'=>e=.returned (.tuple #[.int .i64 (opened+1),.int .i64 0])∧
   ∃ g3 c3 w3,(a.map (·.block)=some g3∨w.heap.size<g3)∧w3.ownsRow 0 96 1 (.slice (some ⟨g3,0,none⟩) (ol+1) c3) (ol+1) (ps++[.pointer (some ⟨w.heap.size,0,none⟩)])∧
     w3.heap[y]?=some (.cells #[rv,.int .i64 room,.slice ac mc cc,kv,.slice a m cp,.int .i64 (opened+1)] 40 (0,0))∧
     w3.heap[w.heap.size]?=some (.cells #[.int .i64 (opened+1),.int .i64 mc,.slice none 0 0,.slice none 0 0] 100 (0,0))∧
     Fr (y::a.toList.map (·.block)) w w3∧w'.heap=(w3.setCell ⟨y,4,none⟩ (.slice (some ⟨g3,0,none⟩) (ol+1) c3)).heap∧Fr (y::a.toList.map (·.block)) w w':=by
 obtain⟨i0,hi0,hz0,hz1,hz2⟩:=info_parts Tryz.info96
 have em:=ar hrow
 subst em
 have d2:w.cell? ⟨y,2,none⟩=some (.slice ac mc cc):=by simp[World.cell?,hb]
 have d4:w.cell? ⟨y,4,none⟩=some (.slice a m cp):=by simp[World.cell?,hb]
 have d5:w.cell? ⟨y,5,none⟩=some (.int .i64 opened):=by simp[World.cell?,hb]
 have z4:w.frozen? ⟨y,4,none⟩=false:=by simp[World.frozen?,hb]
 have z5:w.frozen? ⟨y,5,none⟩=false:=by simp[World.frozen?,hb]
 have hyl:=lt_of_block hb
 have hne:(Value.slice a m cp).ownBlock≠some y:=aS hrow hb (by decide)
 have hmx:m+1≤maxLen:=by unfold maxLen;omega
 have hm8:(m+1)*8≤140737488355328:=by omega
 have HNB:Hid (∀ o,((((w.setCell ⟨y,5,none⟩ (.int .i64 (opened+1))).alloc o).alloc (.cells #[.pointer (some ⟨w.heap.size,0,none⟩)] 96)).drew).heap[w.heap.size+1]?=some (.cells #[.pointer (some ⟨w.heap.size,0,none⟩)] 96 (0,0))):=af (fun o=>by
  have:=heap_alloc_new ((w.setCell ⟨y,5,none⟩ (.int .i64 (opened+1))).alloc o) (.cells #[.pointer (some ⟨w.heap.size,0,none⟩)] 96)
  have e:((w.setCell ⟨y,5,none⟩ (.int .i64 (opened+1))).alloc o).heap.size=w.heap.size+1:=by simp
  rw[e] at this
  exact this)
 have HY:Hid (∀ o (w3:World),((((w.setCell ⟨y,5,none⟩ (.int .i64 (opened+1))).alloc o).alloc (.cells #[.pointer (some ⟨w.heap.size,0,none⟩)] 96)).drew).grownBy w3 (Value.slice a m cp).ownBlock→w3.heap[y]?=some (.cells #[rv,.int .i64 room,.slice ac mc cc,kv,.slice a m cp,.int .i64 (opened+1)] 40 (0,0))):=af (fun o w3 hg=>by
  have h1:(w.setCell ⟨y,5,none⟩ (.int .i64 (opened+1))).heap[y]?=some (.cells #[rv,.int .i64 room,.slice ac mc cc,kv,.slice a m cp,.int .i64 (opened+1)] 40 (0,0)):=sN hb
  have h2:=((World.grownBy_alloc _ o none).block y (lt_of_block h1) (by simp)).trans h1
  have h3:=((World.grownBy_alloc _ (.cells #[.pointer (some ⟨w.heap.size,0,none⟩)] 96) none).block y (lt_of_block h2) (by simp)).trans h2
  exact (hg.block y (lt_of_block h3) (fun e=>hne e.symm)).trans h3)
 have HSS:Hid (∀ (w3:World),((((w.setCell ⟨y,5,none⟩ (.int .i64 (opened+1))).alloc (.cells #[.int .i64 (opened+1),.int .i64 mc,.slice none 0 0,.slice none 0 0] 100 (0,0))).alloc (.cells #[.pointer (some ⟨w.heap.size,0,none⟩)] 96)).drew).grownBy w3 (Value.slice a m cp).ownBlock→w3.heap[w.heap.size]?=some (.cells #[.int .i64 (opened+1),.int .i64 mc,.slice none 0 0,.slice none 0 0] 100 (0,0))):=af (fun w3 hg=>by
  have h1:=heap_alloc_new (w.setCell ⟨y,5,none⟩ (.int .i64 (opened+1))) (.cells #[.int .i64 (opened+1),.int .i64 mc,.slice none 0 0,.slice none 0 0] 100 (0,0))
  have e:(w.setCell ⟨y,5,none⟩ (.int .i64 (opened+1))).heap.size=w.heap.size:=by simp
  rw[e] at h1
  have h3:=((World.grownBy_alloc _ (.cells #[.pointer (some ⟨w.heap.size,0,none⟩)] 96) none).block _ (lt_of_block h1) (by simp)).trans h1
  exact (hg.block _ (lt_of_block h3) (fun e=>by have:=(hrow.lt _ e.symm).2;omega)).trans h3)
 have HFR:Hid (∀ o (w3:World),((((w.setCell ⟨y,5,none⟩ (.int .i64 (opened+1))).alloc o).alloc (.cells #[.pointer (some ⟨w.heap.size,0,none⟩)] 96)).drew).grownBy w3 (Value.slice a m cp).ownBlock→Fr (y::a.toList.map (·.block)) w w3):=af (fun o w3 hg=>by
  have h:=(((Fr.refl (y::a.toList.map (·.block)) w).set (a:=⟨y,5,none⟩) (.inl (by simp)) (.int .i64 (opened+1))).alloc o).alloc (.cells #[.pointer (some ⟨w.heap.size,0,none⟩)] 96)
  refine Fr.trans (b:=((((w.setCell ⟨y,5,none⟩ (.int .i64 (opened+1))).alloc o).alloc (.cells #[.pointer (some ⟨w.heap.size,0,none⟩)] 96)).drew)) ⟨h.os,h.tape,h.output,h.size,h.block⟩ ((Fr.grown hg).mono (fun g hg=>.inl ?_))
  cases a with
  |none=>simp[Value.ownBlock] at hg
  |some a=>simp[Value.ownBlock] at hg ⊢;exact .inr hg)
 have HH:Hid (∀ o,w.heap.size<((((w.setCell ⟨y,5,none⟩ (.int .i64 (opened+1))).alloc o).alloc (.cells #[.pointer (some ⟨w.heap.size,0,none⟩)] 96)).drew).heap.size):=af (fun o=>by
  have e:(((w.setCell ⟨y,5,none⟩ (.int .i64 (opened+1))).alloc o).alloc (.cells #[.pointer (some ⟨w.heap.size,0,none⟩)] 96)).heap.size=w.heap.size+1+1:=by simp
  have e2:((((w.setCell ⟨y,5,none⟩ (.int .i64 (opened+1))).alloc o).alloc (.cells #[.pointer (some ⟨w.heap.size,0,none⟩)] 96)).drew).heap.size=w.heap.size+1+1:=e
  omega)
 go_enter Tryz.func20,Tryz.ntmps20
 go_wp2_with fail
 go_region_law (
  refine step_append_lies _ rfl (.tmp 21) (.tmp 33) 38 rfl 0 96 i0 (.pointer none) 1 8 Tryz.underlying38 hi0 hz0 hz1 hz2 rfl (by decide) (.slice a m cp) m ps (by simp[Act.eval]) (du (((ownsRow_setCell_other hrow hne _).alloc _).alloc _) rfl) ⟨w.heap.size+1,0,none⟩ 1 1 [.pointer (some ⟨w.heap.size,0,none⟩)] (by simp[Act.eval]) rfl (World.news_of_block (cs:=#[.pointer (some ⟨w.heap.size,0,none⟩)]) (t:=96) (fr:=(0,0)) (HNB.out _)) (fun u hu=>by simp at hu;subst hu;rfl) (by decide) hmx hm8 (Nat.zero_le _) _ rfl (fun g3 c3 w3 hv3 hg3 hn3 hl3=>?_)
  have hb3:w3.heap[y]?=some (.cells #[rv,.int .i64 room,.slice ac mc cc,kv,.slice a m cp,.int .i64 (opened+1)] 40 (0,0)):=HY.out _ w3 hg3
  have d3:w3.cell? ⟨y,4,none⟩=some (.slice a m cp):=by simp[World.cell?,hb3]
  have e3:w3.cell? ⟨y,5,none⟩=some (.int .i64 (opened+1)):=by simp[World.cell?,hb3]
  have z3:w3.frozen? ⟨y,4,none⟩=false:=by simp[World.frozen?,hb3])
 all_goals
  go_wp2_with fail
  go_ret2
  exact⟨rfl,g3,c3,w3,Dv hn3 (by first|exact HH.out _|omega),hv3,hb3,HSS.out w3 hg3,HFR.out _ w3 hg3,rfl,(HFR.out _ w3 hg3).set (.inl (by simp)) _⟩
theorem uU (y:Nat) (m:Nat) (a:Option Addr) (cp:Nat) (w:World) (d4:w.cell? ⟨y,4,none⟩=some (.slice a m cp)) (hm:8≤m) (hm2:m≤9223372036854775807) :
  Calls Tryz.prog 20 #[.pointer (some ⟨y,0,none⟩)] w fun e w'=>e=.returned (.tuple #[.int .i64 0,.int .i64 7])∧w'=w:=by
 go_enter Tryz.func20,Tryz.ntmps20
 go_wp2_with fail
 go_ret2
 exact⟨rfl,rfl⟩
def cE (E:bk):(Int×Int)×bk:=if 8≤E.opn.length then ((0,7),E) else ((E.opened+1,0),{ E with opened:=E.opened+1,opn:=E.opn++[⟨E.opened+1,E.com.length,[],[]⟩] })
theorem xR {Q:Value→eV} (hQ:∀ v,bS (Q v)) (hQw:∀ v,bX (Q v)) {y:Nat} {E:bk} {w:World} {f:List Nat} (hE:bJ Q y E w f) (hn:f.Nodup) (hlen:E.opn.length≤8) (ho:0≤E.opened∧E.opened<9223372036854775807) (hcl:E.com.length≤9223372036854775806) :
  Calls Tryz.prog 20 #[.pointer (some ⟨y,0,none⟩)] w fun e w'=>e=.returned (.tuple #[.int .i64 (cE E).1.1,.int .i64 (cE E).1.2])∧gi Q y (cE E).2 f w w':=by
 have hE0:=hE
 obtain⟨rv,cv,kv,ov,cs,ps,hst⟩:=hE0
 have hwi:∀ x∈f,x<w.heap.size:=fun x hx=>bY.within (e7.within _ _ _) (bY.within (hQw rv) (bY.within (bn.within _ _ _ _ _) (bY.within (aA.within (fun _ _=>bn.within _ _ _ _ _) _ _) (bY.within (bn.within _ _ _ _ _) (bY.within (bn.within _ _ _ _ _) (aA.within eA.within _ _)))))) hst x hx
 obtain⟨f1,f2,⟨hb,rfl⟩,⟨f3,f4,hq,⟨f5,f6,hcr,⟨f7,f8,hcom,⟨f9,f10,hkr,⟨f11,f12,⟨hor,rfl⟩,hses,rfl⟩,rfl⟩,rfl⟩,rfl⟩,rfl⟩,rfl⟩:=hst
 obtain⟨a,m,cp,rfl⟩:=an hor
 obtain⟨ac,mc,cc,rfl⟩:=an hcr.1
 have em:=ar hor
 have emc:=ar hcr.1
 subst em
 subst emc
 have hob:(Value.slice a E.opn.length cp).ownBlock.toList=a.toList.map (·.block):=by cases a <;> rfl
 unfold cE
 by_cases h8:8≤E.opn.length
 ·rw[if_pos h8]
  refine (uU y E.opn.length a cp w (by simp[World.cell?,hb]) h8 (by omega)).mono ?_
  rintro e w' ⟨rfl,rfl⟩
  exact⟨rfl,gi.same hE hn⟩
 ·rw[if_neg h8]
  refine (tY y E.opn.length rv kv E.room E.opened ps ac E.com.length cc a E.opn.length cp w hb hor (by omega) ho (by omega)).mono ?_
  rintro e w' ⟨rfl,g3,c3,w3,hg3,hv3,hy3,hs3,hf3,hw',hfr⟩
  refine⟨rfl,?_⟩
  rw[hob] at hn hwi
  have hyl:=lt_of_block hb
  have hy4:w'.heap[y]?=some (.cells #[rv,.int .i64 E.room,.slice ac E.com.length cc,kv,.slice (some ⟨g3,0,none⟩) (E.opn.length+1) c3,.int .i64 (E.opened+1)] 40 (0,0)):=by rw[hw'];exact nB hy3
  have hs4:w'.heap[w.heap.size]?=some (.cells #[.int .i64 (E.opened+1),.int .i64 E.com.length,.slice none 0 0,.slice none 0 0] 100 (0,0)):=by
   rw[hw',Below.heap_setCell w3 _ _ _ (by simp;omega)]
   exact hs3
  have hv4:=du (ownsRow_setCell_other hv3 (aS hv3 hy3 (by decide)) (.slice (some ⟨g3,0,none⟩) (E.opn.length+1) c3)) hw'
  have hdis:∀ x,x∈f3∨x∈f5∨x∈f7∨x∈f9∨x∈f12→x∉y::a.toList.map (·.block):=by
   simp only[List.nodup_append,List.mem_append,List.mem_singleton] at hn
   intro x hx hx2
   simp only[List.mem_cons] at hx2
   grind
  have hS:eA (.pointer (some ⟨w.heap.size,0,none⟩)) ⟨E.opened+1,E.com.length,[],[]⟩ w' [w.heap.size]:=
   ⟨w.heap.size,_,_,rfl,[w.heap.size],[],⟨hs4,rfl⟩,⟨[],[],bn.nil _ _ _,bn.nil _ _ _,rfl⟩,rfl⟩
  have hE2:=aA.snoc hS (aA.framed eA.framed _ _ hses hfr (fun x hx=>hdis x (by simp[hx])))
  refine⟨[y]++(f3++(f5++(f7++(f9++([g3]++(f12++[w.heap.size])))))),⟨rv,_,kv,_,cs,_,[y],_,⟨hy4,rfl⟩,⟨f3,_,hQ rv hq hfr (fun x hx=>hdis x (by simp[hx])),⟨f5,_,bn.framed _ _ _ _ _ hcr hfr (fun x hx=>hdis x (by simp[hx])),⟨f7,_,aA.framed ik.framed _ _ hcom hfr (fun x hx=>hdis x (by simp[hx])),⟨f9,_,bn.framed _ _ _ _ _ hkr hfr (fun x hx=>hdis x (by simp[hx])),⟨[g3],_,⟨?_,rfl⟩,hE2,rfl⟩,rfl⟩,rfl⟩,rfl⟩,rfl⟩,rfl⟩,?_,?_,?_⟩
  ·simp only[List.length_append,List.length_cons,List.length_nil]
   exact hv4
  ·have hg4:g3∈a.toList.map (·.block)∨w.heap.size<g3:=by
    rcases hg3 with h|h
    ·exact .inl (by cases a <;> simp_all)
    ·exact .inr h
   have hsz:∀ x∈([y]++(f3++(f5++(f7++f9))))++(a.toList.map (·.block)++f12),x<w.heap.size:=by
    intro x hx
    apply hwi x
    simp only[List.append_assoc] at hx ⊢
    exact hx
   have hn3:(([y]++(f3++(f5++(f7++f9))))++(a.toList.map (·.block)++f12)).Nodup:=by
    simp only[List.append_assoc] at hn ⊢
    exact hn
   have hn4:=eb (g':=[g3]) hn3 hsz (by simp) (fun x hx=>by
    simp only[List.mem_singleton] at hx
    subst hx
    rcases hg4 with h|h
    ·exact .inl h
    ·exact .inr (by omega))
   have hn5:((([y]++(f3++(f5++(f7++f9))))++([g3]++f12))++[w.heap.size]).Nodup:=by
    rw[List.nodup_append]
    refine⟨hn4,by simp,?_⟩
    intro x hx b hb
    simp only[List.mem_singleton] at hb
    subst hb
    rintro rfl
    have hlt:∀ x∈([y]++(f3++(f5++(f7++f9))))++([g3]++f12),x<w.heap.size∨w.heap.size<x:=by
     intro x hx
     simp only[List.mem_append,List.mem_singleton] at hx hsz
     by_cases e:x=g3
     ·subst e
      rcases hg4 with h|h
      ·exact .inl (hsz x (.inr (.inl h)))
      ·exact .inr h
     ·left
      apply hsz x
      grind
    have:=hlt _ hx
    omega
   simp only[List.append_assoc] at hn5 ⊢
   exact hn5
  ·intro x hx
   have hg4:x=g3→x∈a.toList.map (·.block)∨w.heap.size≤x:=by
    rintro rfl
    rcases hg3 with h|h
    ·exact .inl (by cases a <;> simp_all)
    ·exact .inr (by omega)
   rw[hob]
   simp only[List.mem_append,List.mem_singleton] at hx ⊢
   grind
  ·exact hfr.mono (fun x hx=>.inl (by rw[hob];simp at hx ⊢;rcases hx with h|h <;> simp[h]))
def gZ (opn:List br) (ps:List Value) (n:Int) (k:Nat):List (br×Value):=((opn.zip ps).take k).filter (fun q=>q.1.num != n)
theorem xM {opn:List br} {ps:List Value} {n:Int} {k:Nat} (h1:k<opn.length) (h2:k<ps.length):gZ opn ps n (k+1)=gZ opn ps n k++(if opn[k].num=n then [] else [(opn[k],ps[k])]):=by
 unfold gZ
 have hz:k<(opn.zip ps).length:=by simp;omega
 rw[List.take_succ_eq_append_getElem hz,List.filter_append]
 congr 1
 by_cases e:opn[k].num=n <;> simp[e]
theorem C5 (opn:List br) (ps:List Value) (n:Int) (k:Nat):(gZ opn ps n k).length≤k:=by
 unfold gZ
 exact Nat.le_trans (List.length_filter_le _ _) (by simp;omega)
theorem zv (y:Nat) (opn:List br) (ps:List Value) (fs:List Nat) (n:Int) (a:Option Addr) (m cp:Nat) (w:World) (rv cv kv:Value) (room opened:Int)
  (hb:w.heap[y]?=some (.cells #[rv,.int .i64 room,cv,kv,.slice a m cp,.int .i64 opened] 40 (0,0))) (hrow:w.ownsRow 0 96 1 (.slice a m cp) opn.length ps) (hses:aA eA ps opn w fs) (hlen:opn.length≤8) :
  Calls Tryz.prog 52 #[.pointer (some ⟨y,0,none⟩),.int .i64 n] w fun e w'=>e=.returned (.tuple #[])∧∃ v w3,w3.ownsRow w.heap.size 96 1 v (gZ opn ps n opn.length).length ((gZ opn ps n opn.length).map (·.2))∧w.grownBy w3 none∧w'.heap=(w3.setCell ⟨y,4,none⟩ v).heap∧Fr [y] w w':=by
 obtain⟨i0,hi0,hz0,hz1,hz2⟩:=info_parts Tryz.info96
 have em:=ar hrow
 subst em
 have hpl:=aA.len hses
 have HS:=af hses
 have hyl:=lt_of_block hb
 have HB:=af hb
 have HR:=af hrow
 clear hses hrow hb
 go_enter Tryz.func52,Tryz.ntmps52
 go_wp2_with fail
 go_loopw [4,5] (fun v t wr=>∃ k:Nat,k≤opn.length∧t=.int .i64 k∧wr.ownsRow w.heap.size 96 1 v (gZ opn ps n k).length ((gZ opn ps n k).map (·.2))∧w.grownBy wr none) (fun _ t _=>opn.length - (intOf t).toNat)
 case atStart=>exact⟨0,by omega,rfl,World.ownsRow_nil _ _ _ _,ag _ _⟩
 case round=>
  obtain⟨k,hk,rfl,hown,hg⟩:=hrel
  obtain⟨va,vm,vc,rfl⟩:=an hown
  have hbw:=(hg.block y hyl (by simp)).trans HB.out
  have d4:wr.cell? ⟨y,4,none⟩=some (.slice a opn.length cp):=by simp[World.cell?,hbw]
  have z4:wr.frozen? ⟨y,4,none⟩=false:=by simp[World.frozen?,hbw]
  by_cases hlt:k<opn.length
  ·have hlt2:k<ps.length:=by omega
   obtain⟨g,rfl,_,hgb,hgl,hcell⟩:=aC HR.out (by omega)
   obtain⟨f1,hse,_⟩:=aA.get HS.out k hlt2 hlt
   obtain⟨g1,a1,m1,c1,a2,m2,c2,hp,hb1,_,_,_⟩:=hse.open
   have d0:wr.cell? ⟨g,k,none⟩=some (.pointer (some ⟨g1,0,none⟩)):=by
    rw[hg.cell_far ⟨g,k,none⟩ hgl (by simp),←hp]
    exact hcell k _ (List.getElem?_eq_getElem hlt2)
   have d1:wr.cell? ⟨g1,0,none⟩=some (.int .i64 opn[k].num):=by
    rw[hg.cell_far ⟨g1,0,none⟩ (lt_of_block hb1) (by simp)]
    simp[World.cell?,hb1]
   have HL:=af (xM (n:=n) hlt hlt2)
   obtain⟨nn,hnn⟩:∃ nn,nn=opn[k].num:=⟨_,rfl⟩
   rw[←hnn] at d1 HL
   clear hcell hse hb1 hnn hbw
   have hll:=C5 opn ps n k
   by_cases e:nn=n
   ·have HL2:Hid (gZ opn ps n (k+1)=gZ opn ps n k):=af (by rw[HL.out,if_pos e];simp)
    subst e
    go_wp2_with fail
    go_roundw
    case rel=>exact⟨k+1,by omega,by go_num,by rw[HL2.out];exact hown,hg⟩
    case measure=>simp[intOf];omega
   ·have HL2:Hid (gZ opn ps n (k+1)=gZ opn ps n k++[(opn[k],ps[k])]):=af (by rw[HL.out,if_neg e])
    rw[hp] at HL2
    have hbs:w.heap.size≤(wr.alloc (.cells #[.pointer (some ⟨g1,0,none⟩)] 96)).heap.size:=Nat.le_trans hg.size (World.grownBy_alloc wr _ none).size
    go_wp2_with (first|(at_builtin;refine wpList_append_own _ rfl (.tmp 27) (.tmp 35) 38 rfl (w.heap.size) 96 i0 (.pointer none) 1 8 Tryz.underlying38 hi0 hz0 hz1 hz2 rfl (by decide) _ _ _ rfl (hown.alloc _) _ 1 1 [.pointer (some ⟨g1,0,none⟩)] rfl rfl (fun j u hj=>bj hj) (fun u hu=>by simp at hu;subst hu;rfl) (by unfold maxLen;omega) (by omega) hbs ?_))
    ·intro v' w3 hown3 hg3 _
     have hown3':w3.ownsRow w.heap.size 96 1 v' (gZ opn ps n (k+1)).length ((gZ opn ps n (k+1)).map (·.2)):=by rw[HL2.out];simpa using hown3
     have hg3':w.grownBy w3 none:=aK (ab hg _) hg3 (fun g hg=>(hown.lt g hg).1)
     clear hown3 hg3 hown hg d0 d1 d4 z4
     go_wp2
     go_roundw
     case rel=>exact⟨k+1,by omega,by go_num,hown3',hg3'⟩
     case measure=>simp[intOf];omega
  ·have e:k=opn.length:=by omega
   subst e
   go_wp2_with fail
   go_returns
   exact⟨rfl,_,wr,hown,hg,rfl,((Fr.grown hg).mono (fun g hg=>by cases hg)).set (.inl (by simp)) _⟩
theorem yg {f1 f2 g:List Nat} (h:g.Sublist f2):g.Sublist (f1++f2):=h.trans (List.sublist_append_right _ _)
theorem aA.left {α:Type} {P:Value→α→eV} (c:α→Bool):∀ {vs:List Value} {zs:List α} {w:World} {f:List Nat},aA P vs zs w f→
  ∃ g,aA P (((zs.zip vs).filter (fun q=>c q.1)).map (·.2)) (zs.filter c) w g∧g.Sublist f∧((zs.zip vs).filter (fun q=>c q.1)).length=(zs.filter c).length
 |[],[],w,f,h=>⟨[],rfl,by simp,rfl⟩
 |v::vs,a::zs,w,f,⟨f1,f2,h1,h2,e⟩=>by
  obtain⟨g,h3,h4,h5⟩:=aA.left c h2
  subst e
  cases hc:c a
  ·refine⟨g,by simpa [hc] using h3,yg h4,by simpa [hc] using h5⟩
  ·refine⟨f1++g,?_,List.Sublist.append (List.Sublist.refl _) h4,by simpa [hc] using h5⟩
   simp only[List.zip_cons_cons,List.filter_cons,hc,if_true,List.map_cons]
   exact⟨f1,g,h1,h3,rfl⟩
 |[],_::_,_,_,h=>h.elim
 |_::_,[],_,_,h=>h.elim
def dF (E:bk) (n:Int):bk:={ E with opn:=E.opn.filter (fun S=>S.num != n) }
theorem mZ {Q:Value→eV} (hQ:∀ v,bS (Q v)) (hQw:∀ v,bX (Q v)) {y:Nat} {E:bk} {w:World} {f:List Nat} (n:Int) (hE:bJ Q y E w f) (hn:f.Nodup) (hlen:E.opn.length≤8) :
  Calls Tryz.prog 52 #[.pointer (some ⟨y,0,none⟩),.int .i64 n] w fun e w'=>e=.returned (.tuple #[])∧gi Q y (dF E n) f w w':=by
 obtain⟨rv,cv,kv,ov,cs,ps,hst⟩:=hE
 have hwi:∀ x∈f,x<w.heap.size:=fun x hx=>bY.within (e7.within _ _ _) (bY.within (hQw rv) (bY.within (bn.within _ _ _ _ _) (bY.within (aA.within (fun _ _=>bn.within _ _ _ _ _) _ _) (bY.within (bn.within _ _ _ _ _) (bY.within (bn.within _ _ _ _ _) (aA.within eA.within _ _)))))) hst x hx
 obtain⟨f1,f2,⟨hb,rfl⟩,⟨f3,f4,hq,⟨f5,f6,hcr,⟨f7,f8,hcom,⟨f9,f10,hkr,⟨f11,f12,⟨hor,rfl⟩,hses,rfl⟩,rfl⟩,rfl⟩,rfl⟩,rfl⟩,rfl⟩:=hst
 obtain⟨a,m,cp,rfl⟩:=an hor
 refine (zv y E.opn ps f12 n a m cp w rv cv kv E.room E.opened hb hor hses hlen).mono ?_
 rintro e w' ⟨rfl,v,w3,hv3,hg3,hw',hfr⟩
 refine⟨rfl,?_⟩
 have hpl:=aA.len hses
 have hyl:=lt_of_block hb
 have hy3:=(hg3.block y hyl (by simp)).trans hb
 have hy4:w'.heap[y]?=some (.cells #[rv,.int .i64 E.room,cv,kv,v,.int .i64 E.opened] 40 (0,0)):=by rw[hw'];exact nB hy3
 have hv4:=bO (du (ownsRow_setCell_other hv3 (aS hv3 hy3 (by decide)) v) hw') (Nat.zero_le _)
 obtain⟨g,h3,h4,h5⟩:=aA.left (fun S:br=>S.num != n) hses
 have hz:gZ E.opn ps n E.opn.length=(E.opn.zip ps).filter (fun q=>q.1.num != n):=by
  unfold gZ
  rw[List.take_of_length_le (by simp;omega)]
 rw[hz,h5] at hv4
 have hdis:∀ x,x∈f3∨x∈f5∨x∈f7∨x∈f9∨x∈f12→x∉[y]:=by
  simp only[List.nodup_append,List.mem_append,List.mem_singleton] at hn
  intro x hx hx2
  simp only[List.mem_singleton] at hx2
  grind
 have hE2:=aA.framed eA.framed _ _ h3 hfr (fun x hx=>hdis x (by simp[h4.subset hx]))
 have hvb:∀ x∈v.ownBlock.toList,w.heap.size≤x:=by
  intro x hx
  cases hb:v.ownBlock with
  |none=>rw[hb] at hx;cases hx
  |some z=>
   rw[hb] at hx
   simp at hx
   subst hx
   exact (hv3.lt _ hb).1
 refine⟨[y]++(f3++(f5++(f7++(f9++(v.ownBlock.toList++g))))),⟨rv,_,kv,v,cs,_,[y],_,⟨hy4,rfl⟩,⟨f3,_,hQ rv hq hfr (fun x hx=>hdis x (by simp[hx])),⟨f5,_,bn.framed _ _ _ _ _ hcr hfr (fun x hx=>hdis x (by simp[hx])),⟨f7,_,aA.framed ik.framed _ _ hcom hfr (fun x hx=>hdis x (by simp[hx])),⟨f9,_,bn.framed _ _ _ _ _ hkr hfr (fun x hx=>hdis x (by simp[hx])),⟨v.ownBlock.toList,g,⟨hv4,rfl⟩,hE2,rfl⟩,rfl⟩,rfl⟩,rfl⟩,rfl⟩,rfl⟩,?_,?_,?_⟩
 ·have hn3:(([y]++(f3++(f5++(f7++f9))))++((Value.slice a m cp).ownBlock.toList++g)).Nodup:=by
   refine List.Nodup.sublist ?_ hn
   simp only[List.append_assoc]
   exact List.Sublist.append (List.Sublist.refl _) (List.Sublist.append (List.Sublist.refl _) (List.Sublist.append (List.Sublist.refl _) (List.Sublist.append (List.Sublist.refl _) (List.Sublist.append (List.Sublist.refl _) (List.Sublist.append (List.Sublist.refl _) h4)))))
  have hsz:∀ x∈([y]++(f3++(f5++(f7++f9))))++((Value.slice a m cp).ownBlock.toList++g),x<w.heap.size:=by
   intro x hx
   apply hwi x
   simp only[List.mem_append] at hx ⊢
   have:x∈g→x∈f12:=fun h=>h4.subset h
   grind
  have:=eb (g':=v.ownBlock.toList) hn3 hsz (by cases v.ownBlock <;> simp) (fun x hx=>.inr (hvb x hx))
  simp only[List.append_assoc] at this ⊢
  exact this
 ·intro x hx
  simp only[List.mem_append] at hx ⊢
  have h6:x∈g→x∈f12:=fun h=>h4.subset h
  have h7:=hvb x
  grind
 ·exact hfr.mono (fun x hx=>.inl (by simp at hx ⊢;simp[hx]))
def cR (E:bk) (n:Int):Int×bk:=match eF E.opn n with
 |none=>(6,E)
 |some _=>(0,dF E n)
theorem wV {Q:Value→eV} (hQ:∀ v,bS (Q v)) (hQw:∀ v,bX (Q v)) {y:Nat} {E:bk} {w:World} {f:List Nat} (n:Int) (hE:bJ Q y E w f) (hn:f.Nodup) (hlen:E.opn.length≤8) :
  Calls Tryz.prog 28 #[.pointer (some ⟨y,0,none⟩),.int .i64 n] w fun e w'=>e=.returned (.int .i64 (cR E n).1)∧gi Q y (cR E n).2 f w w':=by
 have HEND:=af (mZ hQ hQw n hE hn hlen)
 have HSAME:=af (gi.same hE hn)
 obtain⟨rv,cv,kv,ov,cs,ps,f1,f2,⟨hb,rfl⟩,⟨f3,f4,_,⟨f5,f6,_,⟨f7,f8,_,⟨f9,f10,_,⟨f11,f12,⟨hor,_⟩,hses,_⟩,_⟩,_⟩,_⟩,_⟩,_⟩:=hE
 obtain⟨ao,mo,co,rfl⟩:=an hor
 have HF:=af (dW y E.opn ps f12 n ao mo co w (by simp[World.cell?,hb]) hor hses (by omega))
 have HS:=af hses
 clear hb hor hses hn hQ hQw
 unfold cR
 cases hi:eF E.opn n with
 |none=>
  have hno:=lA hi
  go_enter Tryz.func28,Tryz.ntmps28
  go_wp2_with fail
  go_at_call 44
  refine HF.out.mono ?_
  rintro e w' ⟨⟨u,rfl,hans⟩,rfl⟩
  have hu:u=.pointer none:=by
   rcases hans with ⟨k',h1,h2,hn1,hn2,rfl⟩|⟨hn,h⟩
   ·exact absurd hn1 (hno k' h1)
   ·exact h
  subst hu
  clear hans HF hno hi
  go_wp2_with fail
  go_ret
  exact⟨rfl,HSAME.out⟩
 |some k=>
  obtain⟨hk,hk1,hk2⟩:=iG hi
  go_enter Tryz.func28,Tryz.ntmps28
  go_wp2_with fail
  go_at_call 44
  refine HF.out.mono ?_
  rintro e w' ⟨⟨u,rfl,hans⟩,rfl⟩
  obtain⟨g1,rfl⟩:∃ g1,u=.pointer (some ⟨g1,0,none⟩):=by
   rcases hans with ⟨k',h1,h2,hn1,hn2,rfl⟩|⟨hn,_⟩
   ·obtain⟨_,hse,_⟩:=aA.get HS.out k' h2 h1
    obtain⟨g1,_,_,_,_,_,_,hp,_⟩:=hse.open
    exact⟨g1,hp⟩
   ·exact absurd hk1 (hn k hk)
  clear hans HF hk1 hk2 hi HS
  go_wp2_with fail
  go_at_call 52
  refine HEND.out.mono ?_
  rintro e w1 ⟨rfl,ht⟩
  have HT:=af ht
  clear ht
  go_wp2_with fail
  go_ret
  exact⟨rfl,HT.out⟩
def cT (wr:List Wr) (c:Nat):Option Wr:=(bd (aw c) wr).map fun k=>wr.getD k (ByteArray.empty,0)
def cD (wr:List Wr) (n:Nat):List Wr:=(List.range n).filterMap (cT wr)
def aP (wr:List Wr):List Wr:=cD wr 60
def dZ (E:bk) (S:br):Bool:=(aP S.wr).any fun p=>decide ((dK E.com p.1 E.com.length).2>S.snap)
def bk.commit (E:bk) (l:List Wr):bk:={ E with com:=E.com++[l],kept:=E.kept++l.map (fun p=>((E.com.length:Int)+1,p)) }
def kQ (E:bk) (n:Int):(Int×Int)×bk:=match dq E.opn n with
 |none=>((0,6),E)
 |some S=>if dZ E S then ((0,10),dF E n) else if (aP S.wr).isEmpty then ((0,0),dF E n) else (((E.com.length:Int)+1,0),dF (E.commit (aP S.wr)) n)
theorem ks (c:ByteArray) (p:Wr):∀ l:List Wr,bd c (l++[p])=if p.1=c then some l.length else bd c l
 |[]=>by simp[bd]
 |q::l=>by
  simp only[List.cons_append,bd,ks c p l]
  by_cases h:p.1=c
  ·simp[h]
  ·simp[h]
def lH (v:Int):Option Int:=if v<0 then none else some v
def bR (l:List Wr) (c:ByteArray):PW:=(bd c l).map fun k=>lH (l.getD k (ByteArray.empty,0)).2
theorem me (l:List Wr) (p:Wr) (c:ByteArray):bR (l++[p]) c=if p.1=c then some (lH p.2) else bR l c:=by
 unfold bR
 rw[ks]
 by_cases h:p.1=c
 ·simp[h,List.getD]
 ·simp only[h,if_false]
  cases h1:bd c l with
  |none=>rfl
  |some k=>
   have:=fO h1
   simp[List.getD,List.getElem?_append_left this]
theorem ma (k:Nat):(aw k).data=#[UInt8.ofNat (97+(k:Int) / 10).toNat,UInt8.ofNat (48+(k:Int) % 10).toNat]:=rfl
theorem gQ {a b:Nat} (ha:a<60) (hb:b<60) (h:aw a=aw b):a=b:=by
 have h1:(aw a).data=(aw b).data:=by rw[h]
 rw[ma,ma] at h1
 simp only[Array.mk.injEq,List.cons.injEq,and_true] at h1
 obtain⟨h2,h3⟩:=h1
 have h4:=congrArg UInt8.toNat h2
 have h5:=congrArg UInt8.toNat h3
 simp only[UInt8.toNat_ofNat'] at h4 h5
 omega
theorem uF {s:ByteArray} {i:Nat} (h:i<s.size):UInt8.ofNat (bt s i).toNat=s[i]:=by
 unfold bt
 rw[dif_pos h]
 simp
theorem pF {s:ByteArray} (h0:aQ (bt s 0)=true) (h1:bM (bt s 1)=true):dM s<60∧(97:Int)+(dM s:Int) / 10=bt s 0∧(48:Int)+(dM s:Int) % 10=bt s 1:=by
 simp only[aQ,bM,decide_eq_true_eq] at h0 h1
 unfold dM
 omega
theorem t7 {s:ByteArray} (hs:2≤s.size) (h0:aQ (bt s 0)=true) (h1:bM (bt s 1)=true):s.extract 0 2=aw (dM s):=by
 obtain⟨_,h2,h3⟩:=pF h0 h1
 apply ByteArray.ext
 rw[ma,h2,h3,uF (by omega),uF (by omega)]
 rw[ByteArray.data_extract]
 apply Array.ext
 ·simp only[Array.size_extract]
  have:s.data.size=s.size:=rfl
  simp;omega
 ·intro i hi1 hi2
  simp only[Array.getElem_extract,Nat.zero_add]
  have hi3:i<2:=by simpa using hi2
  match i,hi3 with
  |0,_=>rfl
  |1,_=>rfl
theorem we {s:ByteArray} (h:s.size=2):s.extract 0 2=s:=by
 apply ByteArray.ext
 rw[ByteArray.data_extract]
 apply Array.ext
 ·have:s.data.size=s.size:=rfl
  simp;omega
 ·intro i hi1 hi2
  simp
theorem uI (c:Nat) (v:Int):cz c v=aw c++strOfNums [48+v]:=by
 apply ByteArray.ext
 rw[ByteArray.data_append]
 rfl
structure df (P:aI) (S:br):Prop where
 num:P.num=S.num
 pos:1≤S.num
 snap:P.snap=S.snap
 wr:∀ c,c<60→P.wr c=bR S.wr (aw c)
 made:P.made=S.wr.length
 tm:∀ c,c<60→∀ k,bd (aw c) S.wr=some k→P.tm c=S.snap+((k:Int)+1)
 fired:S.fired=[]
 mks:P.mks=none
structure g9 (X:ap) (E:bk) (L:List (Nat×br)):Prop where
 opn:E.opn=L.map (·.2)
 places:(L.map (·.1)).Nodup
 lt:∀ q∈L,q.1<8
 ses:∀ q∈L,df (X.ses q.1) q.2
 free:∀ k,k<8→(∀ q∈L,q.1≠k)→(X.ses k).num=0
 nums:(L.map (·.2.num)).Nodup
 opened:X.opened=E.opened
 openedPos:0≤E.opened
 numLe:∀ q∈L,q.2.num≤E.opened
 snap:∀ q∈L,0≤q.2.snap∧q.2.snap≤E.com.length
 latest:X.latest=E.com.length
 hist:∀ c,c<60→∀ t:Nat,t≤E.com.length→iS (X.hist c) t=lH (dK E.com (aw c) t).1
 histS:∀ c,c<60→∀ t:Nat,t≤E.com.length→(aM (X.hist c) t).1=(dK E.com (aw c) t).2
 histLe:∀ c,c<60→∀ p∈X.hist c,p.1≤E.com.length
 last:∀ c,c<60→X.last c=(dK E.com (aw c) E.com.length).2
 room:X.room=E.room
 kept:keptN X 60=E.kept.length
theorem g9.len {X:ap} {E:bk} {L:List (Nat×br)} (h:g9 X E L):E.opn.length≤8:=by
 have h1:=eK (m:=List.range 8) h.places (fun x hx=>by
  obtain⟨q,hq,rfl⟩:=List.mem_map.mp hx
  simpa using h.lt q hq)
 rw[h.opn]
 simpa using h1
theorem g9.at {X:ap} {E:bk} {L:List (Nat×br)} (h:g9 X E L) {i:Nat} (hi:i<E.opn.length):∃ hl:i<L.length,E.opn[i]=L[i].2:=by
 have hl:i<L.length:=by
  have:=h.opn
  rw[this] at hi
  simpa using hi
 refine⟨hl,?_⟩
 have h1:E.opn[i]?=(L.map (·.2))[i]?:=by rw[h.opn]
 rw[List.getElem?_eq_getElem hi] at h1
 simpa [hl] using h1
theorem g9.place {X:ap} {E:bk} {L:List (Nat×br)} (h:g9 X E L) {q:Nat×br} (hq:q∈L):aL X q.2.num=some q.1:=by
 have hs:=h.ses q hq
 have hp:=hs.pos
 unfold aL
 rw[if_neg (by omega)]
 cases hf:ba X q.2.num with
 |none=>exact absurd hs.num (kO hf q.1 (h.lt q hq))
 |some j=>
  obtain⟨h1,h2⟩:=bu hf
  by_cases hj:∀ q'∈L,q'.1≠j
  ·have:=h.free j h1 hj
   omega
  ·have hex:∃ q'∈L,q'.1=j:=by
    apply Classical.byContradiction
    intro hc
    exact hj (fun q' hq' e=>hc ⟨q',hq',e⟩)
   obtain⟨q',hq',rfl⟩:=hex
   have h3:=(h.ses q' hq').num
   have:q'=q:=iu h.nums hq' hq (by rw[←h3,h2])
   rw[this]
theorem g9.noPlace {X:ap} {E:bk} {L:List (Nat×br)} (h:g9 X E L) {n:Int} (hn:∀ q∈L,q.2.num≠n):aL X n=none:=by
 unfold aL
 split
 ·rfl
 ·cases hf:ba X n with
  |none=>rfl
  |some j=>
   obtain⟨h1,h2⟩:=bu hf
   by_cases hj:∀ q'∈L,q'.1≠j
   ·have:=h.free j h1 hj
    omega
   ·have hex:∃ q'∈L,q'.1=j:=by
     apply Classical.byContradiction
     intro hc
     exact hj (fun q' hq' e=>hc ⟨q',hq',e⟩)
    obtain⟨q',hq',rfl⟩:=hex
    exact absurd ((h.ses q' hq').num.symm.trans h2) (hn q' hq')
theorem g9.find {X:ap} {E:bk} {L:List (Nat×br)} (h:g9 X E L) (n:Int) :
  (aL X n=none∧eF E.opn n=none∧dq E.opn n=none)∨∃ (i:Nat) (hi:i<L.length) (hi2:i<E.opn.length),E.opn[i]=L[i].2∧L[i].2.num=n∧aL X n=some L[i].1∧eF E.opn n=some i∧dq E.opn n=some L[i].2:=by
 cases hi:eF E.opn n with
 |none=>
  have h1:=lA hi
  left
  refine⟨h.noPlace ?_,rfl,iP h1⟩
  intro q hq e
  obtain⟨j,hj,rfl⟩:=List.mem_iff_getElem.mp hq
  have hj2:j<E.opn.length:=by rw[h.opn];simpa using hj
  obtain⟨_,h2⟩:=h.at hj2
  exact h1 j hj2 (by rw[h2];exact e)
 |some i=>
  obtain⟨hk,h1,h2⟩:=iG hi
  obtain⟨hl,h3⟩:=h.at hk
  right
  refine⟨i,hl,hk,h3,by rw[←h3];exact h1,?_,rfl,?_⟩
  ·have:=h.place (List.getElem_mem hl)
   rw[←h3,h1] at this
   exact this
  ·rw[gh hk h1 h2,h3]
theorem g9.open {X:ap} {E:bk} {L:List (Nat×br)} (h:g9 X E L):(a8 X).1=(cE E).1∧∃ L',g9 (a8 X).2 (cE E).2 L':=by
 unfold a8 cE
 have hlen:E.opn.length=L.length:=by rw[h.opn];simp
 cases hf:ba X 0 with
 |none=>
  have h8:8≤E.opn.length:=by
   have h1:=eK (l:=List.range 8) (m:=L.map (·.1)) List.nodup_range (fun k hk=>by
    apply Classical.byContradiction
    intro hc
    have hk8:k<8:=by simpa using hk
    exact kO hf k hk8 (h.free k hk8 (fun q hq e=>hc (List.mem_map.mpr ⟨q,hq,e⟩))))
   rw[hlen]
   simpa using h1
  rw[if_pos h8]
  exact⟨rfl,L,h⟩
 |some k=>
  obtain⟨hk,h0⟩:=bu hf
  have hkL:∀ q∈L,q.1≠k:=by
   rintro q hq rfl
   have h1:=(h.ses q hq).num
   have h2:=(h.ses q hq).pos
   omega
  have h8:¬8≤E.opn.length:=by
   have h1:=eK (l:=k::L.map (·.1)) (m:=List.range 8) (by
    rw[List.nodup_cons]
    refine⟨?_,h.places⟩
    intro hm
    obtain⟨q,hq,e⟩:=List.mem_map.mp hm
    exact hkL q hq e) (fun x hx=>by
    rcases List.mem_cons.mp hx with rfl|hx
    ·simpa using hk
    ·obtain⟨q,hq,rfl⟩:=List.mem_map.mp hx
     simpa using h.lt q hq)
   simp at h1
   omega
  rw[if_neg h8]
  refine⟨by simp[h.opened],L++[(k,⟨E.opened+1,E.com.length,[],[]⟩)],?_⟩
  refine { opn:=by simp[h.opn],places:=?_,lt:=?_,ses:=?_,free:=?_,nums:=?_,opened:=by simp[h.opened],openedPos:=by have:=h.openedPos;show 0≤E.opened+1;omega,numLe:=?_,snap:=?_,latest:=h.latest,hist:=h.hist,histS:=h.histS,histLe:=h.histLe,last:=h.last,room:=h.room,kept:=(eJ rfl 60).trans h.kept }
  ·rw[List.map_append,List.nodup_append]
   refine⟨h.places,by simp,?_⟩
   intro a ha b hb
   obtain⟨q,hq,rfl⟩:=List.mem_map.mp ha
   simp at hb
   rw[hb]
   exact hkL q hq
  ·intro q hq
   rcases List.mem_append.mp hq with hq|hq
   ·exact h.lt q hq
   ·simp at hq;subst hq;exact hk
  ·intro q hq
   rcases List.mem_append.mp hq with hq|hq
   ·show df (cH X.ses k _ q.1) q.2
    rw[bE _ _ _ (hkL q hq)]
    exact h.ses q hq
   ·simp at hq
    subst hq
    show df (cH X.ses k _ k) _
    rw[aW]
    exact⟨by simp[h.opened,aI.new],by have:=h.openedPos;simp;omega,h.latest,fun c _=>rfl,rfl,fun c _ k hk=>by simp[bd] at hk,rfl,rfl⟩
  ·intro j hj hjL
   show (cH X.ses k _ j).num=0
   have h1:j≠k:=fun e=>hjL _ (List.mem_append_right _ (List.mem_singleton.mpr rfl)) e.symm
   rw[bE _ _ _ h1]
   exact h.free j hj (fun q hq=>hjL q (List.mem_append_left _ hq))
  ·rw[List.map_append,List.nodup_append]
   refine⟨h.nums,by simp,?_⟩
   intro a ha b hb
   obtain⟨q,hq,rfl⟩:=List.mem_map.mp ha
   simp at hb
   have:=h.numLe q hq
   omega
  ·intro q hq
   show _≤E.opened+1
   rcases List.mem_append.mp hq with hq|hq
   ·have:=h.numLe q hq;omega
   ·simp at hq;subst hq;simp
  ·intro q hq
   show 0≤q.2.snap∧q.2.snap≤(E.com.length:Int)
   rcases List.mem_append.mp hq with hq|hq
   ·exact h.snap q hq
   ·simp at hq;subst hq;simp
theorem g9.write {X:ap} {E:bk} {L:List (Nat×br)} (h:g9 X E L) {i:Nat} (hi:i<L.length) (c:Nat) (hc:c<60) (p:Wr) (v:Option Int) (hp:p.1=aw c) (hv:lH p.2=v) :
  ∃ L',g9 (X.setSes L[i].1 ((X.ses L[i].1).put c v)) (i9 E i p) L':=by
 refine⟨L.modify i (fun q=>(q.1,q.2.add p)),?_⟩
 have hm1:(L.modify i (fun q=>(q.1,q.2.add p))).map (·.1)=L.map (·.1):=by
  apply List.ext_getElem (by simp)
  intro j h1 h2
  simp[List.getElem_modify]
  split <;> rfl
 have hm2:(L.modify i (fun q=>(q.1,q.2.add p))).map (·.2.num)=L.map (·.2.num):=by
  apply List.ext_getElem (by simp)
  intro j h1 h2
  simp[List.getElem_modify]
  split <;> rfl
 have hmem:∀ q∈L.modify i (fun q=>(q.1,q.2.add p)),(q∈L∧q.1≠L[i].1)∨q=(L[i].1,L[i].2.add p):=by
  intro q hq
  obtain⟨j,hj,rfl⟩:=List.mem_iff_getElem.mp hq
  have hj2:j<L.length:=by simpa using hj
  rw[List.getElem_modify]
  by_cases e:i=j
  ·subst e;right;simp
  ·left
   rw[if_neg e]
   refine⟨List.getElem_mem hj2,?_⟩
   intro he
   have hn:=h.places
   rw[List.nodup_iff_pairwise_ne,List.pairwise_iff_getElem] at hn
   rcases Nat.lt_or_gt_of_ne e with hlt|hlt
   ·exact hn i j (by simpa using hi) (by simpa using hj2) hlt (by simpa using he.symm)
   ·exact hn j i (by simpa using hj2) (by simpa using hi) hlt (by simpa using he)
 refine { opn:=?_,places:=by rw[hm1];exact h.places,lt:=?_,ses:=?_,free:=?_,nums:=by rw[hm2];exact h.nums,opened:=h.opened,openedPos:=h.openedPos,numLe:=?_,snap:=?_,latest:=h.latest,hist:=h.hist,histS:=h.histS,histLe:=h.histLe,last:=h.last,room:=h.room,kept:=(eJ rfl 60).trans h.kept }
 ·show E.opn.modify i _=_
  apply List.ext_getElem
  ·simp[h.opn]
  intro j h1 h2
  have hj:j<E.opn.length:=by simpa using h1
  obtain⟨hl,hat⟩:=h.at hj
  simp only[List.getElem_modify,List.getElem_map,hat]
  split <;> rfl
 ·intro q hq
  rcases hmem q hq with ⟨h1,_⟩|rfl
  ·exact h.lt q h1
  ·exact h.lt L[i] (List.getElem_mem hi)
 ·intro q hq
  rcases hmem q hq with ⟨h1,h2⟩|rfl
  ·show df (cH X.ses _ _ q.1) q.2
   rw[bE _ _ _ h2]
   exact h.ses q h1
  ·show df (cH X.ses _ _ L[i].1) (L[i].2.add p)
   rw[aW]
   have hs:=h.ses _ (List.getElem_mem hi)
   refine⟨hs.num,hs.pos,hs.snap,?_,?_,?_,hs.fired,hs.mks⟩
   rotate_left
   ·show (X.ses L[i].1).made+1=((L[i].2.wr++[p]).length:Nat)
    rw[hs.made]
    simp
   ·intro c' hc' k hk
    show cH (X.ses L[i].1).tm c ((X.ses L[i].1).snap+((X.ses L[i].1).made+1)) c'=L[i].2.snap+((k:Int)+1)
    have hk':bd (aw c') (L[i].2.wr++[p])=some k:=hk
    rw[ks] at hk'
    by_cases e:c'=c
    ·subst e
     rw[if_pos hp] at hk'
     cases hk'
     rw[aW,hs.made,hs.snap]
    ·rw[if_neg (by rw[hp];exact fun he=>e (gQ hc' hc he.symm))] at hk'
     rw[bE _ _ _ e]
     exact hs.tm c' hc' k hk'
   intro c' hc'
   show cH (X.ses L[i].1).wr c (some v) c'=bR (L[i].2.wr++[p]) (aw c')
   rw[me]
   by_cases e:c'=c
   ·subst e
    rw[aW,if_pos hp,hv]
   ·rw[bE _ _ _ e,if_neg (by rw[hp];exact fun he=>e (gQ hc' hc he.symm))]
    exact hs.wr c' hc'
 ·intro j hj hjL
  show (cH X.ses _ _ j).num=0
  by_cases e:j=L[i].1
  ·subst e
   have:(L[i].1,L[i].2.add p)∈L.modify i (fun q=>(q.1,q.2.add p)):=by
    apply List.mem_iff_getElem.mpr
    exact⟨i,by simpa using hi,by simp⟩
   exact absurd rfl (hjL (L[i].1,L[i].2.add p) this)
  ·rw[bE _ _ _ e]
   apply h.free j hj
   intro q hq he
   have:q.1∈(L.modify i (fun q=>(q.1,q.2.add p))).map (·.1):=by rw[hm1];exact List.mem_map.mpr ⟨q,hq,rfl⟩
   obtain⟨q',hq',e'⟩:=List.mem_map.mp this
   exact hjL q' hq' (e'.trans he)
 ·intro q hq
  rcases hmem q hq with ⟨h1,_⟩|rfl
  ·exact h.numLe q h1
  ·exact h.numLe L[i] (List.getElem_mem hi)
 ·intro q hq
  rcases hmem q hq with ⟨h1,_⟩|rfl
  ·exact h.snap q h1
  ·exact h.snap L[i] (List.getElem_mem hi)
theorem g9.put {X:ap} {E:bk} {L:List (Nat×br)} (h:g9 X E L) (n:Int) (s:ByteArray):(cj X n s).1=(fw E n s).1∧∃ L',g9 (cj X n s).2 (fw E n s).2 L':=by
 unfold cj fw
 rcases h.find n with ⟨h1,h2,_⟩|⟨i,hi,hi2,_,_,h1,h2,_⟩
 ·rw[h1,h2];exact⟨rfl,L,h⟩
 ·rw[h1,h2]
  cases hf:eP s with
  |false=>exact⟨rfl,L,h⟩
  |true=>
   simp only[eP,Bool.and_eq_true,beq_iff_eq] at hf
   obtain⟨⟨⟨f1,f2⟩,f3⟩,f4⟩:=hf
   refine⟨rfl,?_⟩
   refine h.write hi (dM s) (pF f2 f3).1 _ _ (t7 (by omega) f2 f3) ?_
   simp only[bM,decide_eq_true_eq] at f4
   show lH (bt s 2 - 48)=_
   unfold lH
   rw[if_neg (by omega)]
theorem g9.clear {X:ap} {E:bk} {L:List (Nat×br)} (h:g9 X E L) (n:Int) (s:ByteArray):(aY X n s).1=(cS E n s).1∧∃ L',g9 (aY X n s).2 (cS E n s).2 L':=by
 unfold aY cS
 rcases h.find n with ⟨h1,h2,_⟩|⟨i,hi,hi2,_,_,h1,h2,_⟩
 ·rw[h1,h2];exact⟨rfl,L,h⟩
 ·rw[h1,h2]
  cases hf:eC s with
  |false=>exact⟨rfl,L,h⟩
  |true=>
   simp only[eC,Bool.and_eq_true,beq_iff_eq] at hf
   obtain⟨⟨f1,f2⟩,f3⟩:=hf
   refine⟨rfl,?_⟩
   have:=t7 (by omega) f2 f3
   rw[we f1] at this
   exact h.write hi (dM s) (pF f2 f3).1 (s,-1) _ this rfl
theorem g9.seen {X:ap} {E:bk} {L:List (Nat×br)} (h:g9 X E L) {q:Nat×br} (hq:q∈L) {c:Nat} (hc:c<60):jg X q.1 c=lH (dn E.com q.2 (aw c)).1:=by
 have hs:=h.ses q hq
 have hsn:=h.snap q hq
 unfold jg dn
 rw[hs.wr c hc]
 unfold bR
 cases h1:bd (aw c) q.2.wr with
 |some k=>rfl
 |none=>
  simp only[Option.map_none]
  have:=h.hist c hc q.2.snap.toNat (by omega)
  rw[hs.snap]
  rw[←this]
  congr 1
  omega
theorem g9.view {X:ap} {E:bk} {L:List (Nat×br)} (h:g9 X E L) (n:Int):fL X n=match dq E.opn n with|some S=>(cg (cG E.com S 60),0)|none=>(ByteArray.empty,6):=by
 unfold fL
 rcases h.find n with ⟨h1,_,h3⟩|⟨i,hi,hi2,_,_,h1,_,h3⟩
 ·rw[h1,h3]
 ·rw[h1,h3]
  show (ox X L[i].1,(0:Int))=(cg (cG E.com L[i].2 60),0)
  congr 1
  unfold ox cG
  congr 1
  apply dH
  intro c hc
  rw[h.seen (List.getElem_mem hi) (by simpa using hc)]
  unfold lH kp
  by_cases hv:(dn E.com L[i].2 (aw c)).1<0
  ·rw[if_pos hv,if_neg (by omega)];rfl
  ·rw[if_neg hv,if_pos (by omega)]
   simp[uI]
theorem g9.drop {X:ap} {E:bk} {L:List (Nat×br)} (h:g9 X E L) {i:Nat} (hi:i<L.length) {n:Int} (hn:L[i].2.num=n):g9 (X.setSes L[i].1 .zero) (dF E n) (L.filter fun q=>q.2.num != n):=by
 have hin:∀ q∈L.filter (fun q=>q.2.num != n),q∈L∧q.1≠L[i].1:=by
  intro q hq
  obtain⟨h1,h2⟩:=List.mem_filter.mp hq
  refine⟨h1,fun e=>?_⟩
  have:=iu h.places h1 (List.getElem_mem hi) e
  rw[this] at h2
  simp[hn] at h2
 refine { opn:=?_,places:=h.places.sublist (List.filter_sublist.map _),lt:=fun q hq=>h.lt q (hin q hq).1,ses:=?_,free:=?_,nums:=h.nums.sublist (List.filter_sublist.map _),opened:=h.opened,openedPos:=h.openedPos,numLe:=fun q hq=>h.numLe q (hin q hq).1,snap:=fun q hq=>h.snap q (hin q hq).1,latest:=h.latest,hist:=h.hist,histS:=h.histS,histLe:=h.histLe,last:=h.last,room:=h.room,kept:=(eJ rfl 60).trans h.kept }
 ·show E.opn.filter _=_
  rw[h.opn,List.filter_map]
  rfl
 ·intro q hq
  obtain⟨h1,h2⟩:=hin q hq
  show df (cH X.ses _ _ q.1) q.2
  rw[bE _ _ _ h2]
  exact h.ses q h1
 ·intro j hj hjL
  show (cH X.ses _ _ j).num=0
  by_cases e:j=L[i].1
  ·subst e;rw[aW];rfl
  ·rw[bE _ _ _ e]
   apply h.free j hj
   rintro q hq rfl
   refine hjL q (List.mem_filter.mpr ⟨hq,?_⟩) rfl
   simp only[bne_iff_ne,ne_eq]
   intro hqn
   exact e (congrArg (·.1) (iu h.nums hq (List.getElem_mem hi) (hqn.trans hn.symm)))
theorem g9.abort {X:ap} {E:bk} {L:List (Nat×br)} (h:g9 X E L) (n:Int):(aX X n).1=(cR E n).1∧∃ L',g9 (aX X n).2 (cR E n).2 L':=by
 unfold aX cR
 rcases h.find n with ⟨h1,h2,_⟩|⟨i,hi,hi2,_,hn,h1,h2,_⟩
 ·rw[h1,h2];exact⟨rfl,L,h⟩
 ·rw[h1,h2];exact⟨rfl,_,h.drop hi hn⟩
theorem nD {α:Type} (l:List α) (x d:α) {t:Nat} (h:t<l.length):(l++[x]).getD t d=l.getD t d:=by
 simp[List.getD,List.getElem?_append_left h]
theorem jR (com:List (List Wr)) (l:List Wr) (c:ByteArray):∀ t,t≤com.length→dK (com++[l]) c t=dK com c t
 |0,_=>rfl
 |t+1,h=>by
  unfold dK
  rw[nD _ _ _ (by omega),jR com l c t (by omega)]
theorem mI (com:List (List Wr)) (l:List Wr) (c:ByteArray):dK (com++[l]) c (com.length+1)=match bd c l with|some k=>((l.getD k (ByteArray.empty,0)).2,(com.length:Int)+1)|none=>dK com c com.length:=by
 rw[dK]
 have:(com++[l]).getD com.length []=l:=by simp[List.getD]
 rw[this,jR com l c _ (Nat.le_refl _)]
 cases bd c l <;> rfl
theorem kr (wr:List Wr) (n:Nat):cD wr (n+1)=cD wr n++(cT wr n).toList:=by
 unfold cD
 rw[List.range_succ,List.filterMap_append]
 cases h:cT wr n <;> simp[h]
theorem pk {c:ByteArray}:∀ {l:List Wr} {k:Nat},bd c l=some k→(l.getD k (ByteArray.empty,0)).1=c
 |p::l,k,h=>by
  unfold bd at h
  cases h1:bd c l with
  |some j=>
   rw[h1] at h
   simp at h
   subst h
   have:=pk h1
   simpa [List.getD] using this
  |none=>
   rw[h1] at h
   simp at h
   obtain⟨h2,rfl⟩:=h
   simpa [List.getD] using h2
theorem gW {wr:List Wr} {n:Nat} {p:Wr} (h:cT wr n=some p):p.1=aw n:=by
 unfold cT at h
 cases h1:bd (aw n) wr with
 |none=>rw[h1] at h;cases h
 |some k=>
  rw[h1] at h
  simp only[Option.map_some,Option.some.injEq] at h
  rw[←h]
  exact pk h1
theorem lP {wr:List Wr} {c:Nat} (hc:c<60):∀ n,n≤60→bR (cD wr n) (aw c)=if c<n then bR wr (aw c) else none
 |0,_=>by simp[cD,bR,bd]
 |n+1,hn=>by
  rw[kr]
  have ih:=lP (wr:=wr) hc n (by omega)
  cases h:cT wr n with
  |none=>
   simp only[Option.toList_none,List.append_nil]
   rw[ih]
   by_cases e:c<n
   ·rw[if_pos e,if_pos (by omega)]
   ·rw[if_neg e]
    by_cases e2:c<n+1
    ·have:c=n:=by omega
     subst this
     rw[if_pos e2]
     unfold cT at h
     unfold bR
     simp only[Option.map_eq_none_iff] at h
     rw[h];rfl
    ·rw[if_neg e2]
  |some p=>
   have hp:=gW h
   simp only[Option.toList_some]
   rw[me,ih,hp]
   by_cases e:c=n
   ·subst e
    rw[if_pos rfl,if_pos (by omega)]
    unfold cT at h
    unfold bR
    cases h1:bd (aw c) wr with
    |none=>rw[h1] at h;cases h
    |some k=>
     rw[h1] at h
     simp only[Option.map_some,Option.some.injEq] at h
     simp only[Option.map_some]
     rw[h]
   ·rw[if_neg (fun he=>e (gQ (by omega) hc he).symm)]
    by_cases e2:c<n
    ·rw[if_pos e2,if_pos (by omega)]
    ·rw[if_neg e2,if_neg (by omega)]
theorem eL {wr:List Wr} {c:Nat} (hc:c<60):bR (aP wr) (aw c)=bR wr (aw c):=by
 have:=lP (wr:=wr) hc 60 (Nat.le_refl _)
 rw[if_pos hc] at this
 exact this
theorem gD {l:List Wr} {c:ByteArray}:(bR l c).isSome=(bd c l).isSome:=by simp[bR]
theorem tL {P:aI} {S:br} (h:df P S):kC P=!(aP S.wr).isEmpty:=by
 rw[Bool.eq_iff_iff]
 simp only[kC,List.any_eq_true,List.mem_range,Bool.not_eq_true',List.isEmpty_eq_false_iff,ne_eq]
 constructor
 ·rintro⟨c,hc,hs⟩ he
  rw[h.wr c hc,←eL hc,he] at hs
  simp[bR,bd] at hs
 ·intro hne
  apply Classical.byContradiction
  intro hc
  apply hne
  unfold aP cD
  rw[List.filterMap_eq_nil_iff]
  intro c hcm
  have hc60:c<60:=by simpa using hcm
  unfold cT
  cases h1:bd (aw c) S.wr with
  |none=>rfl
  |some k=>
   exfalso
   apply hc
   exact⟨c,hc60,by rw[h.wr c hc60,gD,h1];rfl⟩
theorem g9.clash {X:ap} {E:bk} {L:List (Nat×br)} (h:g9 X E L) {q:Nat×br} (hq:q∈L):clash X (X.ses q.1)=dZ E q.2:=by
 have hs:=h.ses q hq
 rw[Bool.eq_iff_iff]
 simp only[Go.Proofs.YthlhbjnkohinmaaGreat.clash,dZ,List.any_eq_true,List.mem_range,Bool.and_eq_true,decide_eq_true_eq]
 constructor
 ·rintro⟨c,hc,hw,hl⟩
  rw[hs.wr c hc,gD] at hw
  cases h1:bd (aw c) q.2.wr with
  |none=>rw[h1] at hw;cases hw
  |some k=>
   refine⟨q.2.wr.getD k (ByteArray.empty,0),?_,?_⟩
   ·unfold aP cD
    rw[List.mem_filterMap]
    exact⟨c,by simpa using hc,by unfold cT;rw[h1];rfl⟩
   ·rw[pk h1,←h.last c hc,←hs.snap]
    exact hl
 ·rintro⟨p,hp,hl⟩
  unfold aP cD at hp
  rw[List.mem_filterMap] at hp
  obtain⟨c,hc,hn⟩:=hp
  have hc60:c<60:=by simpa using hc
  refine⟨c,hc60,?_,?_⟩
  ·rw[hs.wr c hc60,gD]
   unfold cT at hn
   cases h1:bd (aw c) q.2.wr with
   |none=>rw[h1] at hn;cases hn
   |some k=>rfl
  ·rw[gW hn,←h.last c hc60,←hs.snap] at hl
   exact hl
theorem oJ (X:ap) (P:aI):∀ n,keptN (X.commit P) n=keptN X n+cw P n
 |0=>rfl
 |n+1=>by
  unfold keptN cw
  rw[oJ X P n]
  have:((X.commit P).hist n).length=(X.hist n).length+(if (P.wr n).isSome then 1 else 0):=by
   show (match P.wr n with|some v=>X.hist n++[(X.latest+1,v)]|none=>X.hist n).length=_
   cases P.wr n <;> simp
  omega
theorem jY {P:aI} {S:br} (hs:df P S):∀ n,n≤60→cw P n=(cD S.wr n).length
 |0,_=>rfl
 |n+1,hn=>by
  unfold cw cD
  rw[jY hs n (by omega),List.range_succ,List.filterMap_append,List.length_append,hs.wr n (by omega),gD]
  have e:(List.filterMap (cT S.wr) [n]).length=if (bd (aw n) S.wr).isSome then 1 else 0:=by
   simp only[List.filterMap_cons,List.filterMap_nil]
   unfold cT
   cases bd (aw n) S.wr <;> rfl
  rw[e]
  rfl
theorem g9.commits {X:ap} {E:bk} {L:List (Nat×br)} (h:g9 X E L) {P:aI} {S:br} (hs:df P S):g9 (X.commit P) (E.commit (aP S.wr)) L:=by
 have hcl:(E.commit (aP S.wr)).com.length=E.com.length+1:=by simp[bk.commit]
 refine { opn:=h.opn,places:=h.places,lt:=h.lt,ses:=h.ses,free:=h.free,nums:=h.nums,opened:=h.opened,openedPos:=h.openedPos,numLe:=h.numLe,snap:=?_,latest:=?_,hist:=?_,histS:=?_,histLe:=?_,last:=?_,room:=h.room,kept:=by rw[oJ,jY hs 60 (Nat.le_refl _),h.kept];simp[bk.commit,aP] }
 ·intro q hq
  have:=h.snap q hq
  rw[hcl]
  omega
 ·show X.latest+1=_
  rw[hcl,h.latest]
  omega
 ·intro c hc t ht
  rw[hcl] at ht
  show iS (match P.wr c with|some v=>X.hist c++[(X.latest+1,v)]|none=>X.hist c) t=lH (dK (E.com++[aP S.wr]) (aw c) t).1
  have hw:=hs.wr c hc
  rw[←eL hc] at hw
  by_cases e:t=E.com.length+1
  ·subst e
   rw[mI,hw]
   unfold bR
   cases h1:bd (aw c) (aP S.wr) with
   |some k=>
    simp only[Option.map_some]
    rw[oM,h.latest,if_pos (by omega)]
   |none=>
    simp only[Option.map_none]
    rw[←h.hist c hc E.com.length (Nat.le_refl _)]
    unfold iS
    have hle:=h.histLe c hc
    have hfind:∀ l:List (Int×Option Int),(∀ p∈l,p.1≤E.com.length)→l.find? (fun p=>decide (p.1≤((E.com.length+1:Nat):Int)))=l.find? (fun p=>decide (p.1≤(E.com.length:Int))):=by
     intro l hl
     cases l with
     |nil=>rfl
     |cons a r=>
      have:=hl a (by simp)
      rw[List.find?_cons,List.find?_cons]
      rw[decide_eq_true (by omega),decide_eq_true (by omega)]
    rw[hfind _ (fun p hp=>hle p (by simpa using hp))]
  ·rw[jR _ _ _ _ (by omega),←h.hist c hc t (by omega)]
   cases P.wr c with
   |none=>rfl
   |some v=>
    rw[oM,if_neg]
    rw[h.latest]
    omega
 ·intro c hc t ht
  rw[hcl] at ht
  show (aM (match P.wr c with|some v=>X.hist c++[(X.latest+1,v)]|none=>X.hist c) t).1=(dK (E.com++[aP S.wr]) (aw c) t).2
  have hw:=hs.wr c hc
  rw[←eL hc] at hw
  by_cases e:t=E.com.length+1
  ·subst e
   rw[mI,hw]
   unfold bR
   cases h1:bd (aw c) (aP S.wr) with
   |some k=>
    simp only[Option.map_some]
    rw[eH,h.latest,if_pos (by omega)]
   |none=>
    simp only[Option.map_none]
    rw[←h.histS c hc E.com.length (Nat.le_refl _)]
    unfold aM
    have hle:=h.histLe c hc
    have hfind:∀ l:List (Int×Option Int),(∀ p∈l,p.1≤E.com.length)→l.find? (fun p=>decide (p.1≤((E.com.length+1:Nat):Int)))=l.find? (fun p=>decide (p.1≤(E.com.length:Int))):=by
     intro l hl
     cases l with
     |nil=>rfl
     |cons a r=>
      have:=hl a (by simp)
      rw[List.find?_cons,List.find?_cons]
      rw[decide_eq_true (by omega),decide_eq_true (by omega)]
    rw[hfind _ (fun p hp=>hle p (by simpa using hp))]
  ·rw[jR _ _ _ _ (by omega),←h.histS c hc t (by omega)]
   cases P.wr c with
   |none=>rfl
   |some v=>
    rw[eH,if_neg]
    rw[h.latest]
    omega
 ·intro c hc p hp
  rw[hcl]
  have hp':p∈(match P.wr c with|some v=>X.hist c++[(X.latest+1,v)]|none=>X.hist c):=hp
  cases hw:P.wr c with
  |none=>
   rw[hw] at hp'
   have:=h.histLe c hc p hp'
   omega
  |some v=>
   rw[hw] at hp'
   rcases List.mem_append.mp hp' with hp'|hp'
   ·have:=h.histLe c hc p hp';omega
   ·simp at hp'
    rw[hp',h.latest]
    show (E.com.length:Int)+1≤_
    omega
 ·intro c hc
  rw[hcl]
  show (if (P.wr c).isSome=true then X.latest+1 else X.last c)=(dK (E.com++[aP S.wr]) (aw c) (E.com.length+1)).2
  rw[mI,hs.wr c hc,←eL hc,gD]
  cases h1:bd (aw c) (aP S.wr) with
  |some k=>simp[h.latest]
  |none=>simp[h.last c hc]
theorem g9.commit {X:ap} {E:bk} {L:List (Nat×br)} (h:g9 X E L) (n:Int):(jL X n).1=(kQ E n).1∧∃ L',g9 (jL X n).2 (kQ E n).2 L':=by
 unfold jL kQ
 rcases h.find n with ⟨h1,_,h3⟩|⟨i,hi,hi2,_,hn,h1,_,h3⟩
 ·rw[h1,h3];exact⟨rfl,L,h⟩
 ·rw[h1,h3]
  have hm:=List.getElem_mem hi
  simp only
  rw[tL (h.ses _ hm),h.clash hm]
  cases he:(aP L[i].2.wr).isEmpty with
  |true=>
   have hr:dZ E L[i].2=false:=by
    unfold dZ
    rw[List.isEmpty_iff.mp he]
    rfl
   rw[hr]
   exact⟨rfl,_,h.drop hi hn⟩
  |false=>
   cases hr:dZ E L[i].2 with
   |true=>exact⟨rfl,_,h.drop hi hn⟩
   |false=>
    refine⟨by simp[h.latest],L.filter (fun q=>q.2.num != n),?_⟩
    exact (h.commits (h.ses _ hm)).drop hi hn
end Go.Proofs.YthlhbjnkohinmaaGreat
