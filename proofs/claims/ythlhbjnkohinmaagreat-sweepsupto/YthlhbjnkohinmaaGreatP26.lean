import Derived.Test.YthlhbjnkohinmaaGreatP25
import Derived.Handy
namespace Go.Proofs.YthlhbjnkohinmaaGreat
set_option maxRecDepth 100000
set_option maxHeartbeats 8000000
open Go.RowKit
theorem Tryz.info96:(Tryz.prog.info? 96).map (fun i=>(i.zero,i.size,i.bytes))=some (some (.pointer none),1,8):=by kernel_rfl
theorem tL {w:World}{g:Nat}{x0 x1 x2 x3 x4 x5 u:Value}{t:TypeId}(h:w.heap[g]?=some (.cells #[x0,x1,x2,x3,x4,x5] t (0,0))):(w.setCell ⟨g,5,none⟩ u).heap[g]?=some (.cells #[x0,x1,x2,x3,x4,u] t (0,0)):=by
 obtain⟨hl,e⟩:=Array.getElem?_eq_some_iff.mp h
 simp[World.setCell,hl,Array.getElem_modify,e]
theorem mA {w:World}{g:Nat}{x0 x1 x2 x3 x4 x5 u:Value}{t:TypeId}(h:w.heap[g]?=some (.cells #[x0,x1,x2,x3,x4,x5] t (0,0))):(w.setCell ⟨g,4,none⟩ u).heap[g]?=some (.cells #[x0,x1,x2,x3,u,x5] t (0,0)):=by
 obtain⟨hl,e⟩:=Array.getElem?_eq_some_iff.mp h
 simp[World.setCell,hl,Array.getElem_modify,e]
theorem DS {w:World}{a1:Option Addr}{m1 c1 g3 H:Nat}(h:(Value.slice a1 m1 c1).ownBlock=some g3∨g3=H)(hH:w.heap.size<H):a1.map (·.block)=some g3∨w.heap.size<g3:=by
 rcases h with h|h
 ·left
  cases a1 with
  |none=>simp[Value.ownBlock] at h
  |some a=>simpa [Value.ownBlock] using h
 ·exact .inr (by rw[h];exact hH)
theorem ux (y:Nat)(ol:Nat)(rv kv:Value)(room opened:Int)(ps:List Value)(ac:Option Addr)(mc cc:Nat)(a:Option Addr)(m cp:Nat)(w:World)
  (hb:w.heap[y]?=some (.cells #[rv,.int .i64 room,.slice ac mc cc,kv,.slice a m cp,.int .i64 opened] 40 (0,0))) (hrow:w.ownsRow 0 96 1 (.slice a m cp) ol ps) (hlen:ol<8) (ho:0≤opened∧opened<9223372036854775807) (_hmc:mc≤9223372036854775807) :
  Calls Tryz.prog 20 #[.pointer (some ⟨y,0,none⟩)] w fun e w'=>e=.returned (.tuple #[.int .i64 (opened+1),.int .i64 0])∧
   ∃ g3 c3 w3,(a.map (·.block)=some g3∨w.heap.size<g3)∧w3.ownsRow 0 96 1 (.slice (some ⟨g3,0,none⟩) (ol+1) c3) (ol+1) (ps++[.pointer (some ⟨w.heap.size,0,none⟩)])∧
     w3.heap[y]?=some (.cells #[rv,.int .i64 room,.slice ac mc cc,kv,.slice a m cp,.int .i64 (opened+1)] 40 (0,0))∧
     w3.heap[w.heap.size]?=some (.cells #[.int .i64 (opened+1),.int .i64 mc,.slice none 0 0,.slice none 0 0] 100 (0,0))∧
     Fr (y::a.toList.map (·.block)) w w3∧w'.heap=(w3.setCell ⟨y,4,none⟩ (.slice (some ⟨g3,0,none⟩) (ol+1) c3)).heap∧Fr (y::a.toList.map (·.block)) w w':=by
 obtain⟨i0,hi0,hz0,hz1,hz2⟩:=info_parts Tryz.info96
 have em:=au hrow
 subst em
 have d2:w.cell? ⟨y,2,none⟩=some (.slice ac mc cc):=by simp[World.cell?,hb]
 have d4:w.cell? ⟨y,4,none⟩=some (.slice a m cp):=by simp[World.cell?,hb]
 have d5:w.cell? ⟨y,5,none⟩=some (.int .i64 opened):=by simp[World.cell?,hb]
 have z4:w.frozen? ⟨y,4,none⟩=false:=by simp[World.frozen?,hb]
 have z5:w.frozen? ⟨y,5,none⟩=false:=by simp[World.frozen?,hb]
 have hyl:=lt_of_block hb
 have hne:(Value.slice a m cp).ownBlock≠some y:=aU hrow hb (by decide)
 have hmx:m+1≤maxLen:=by unfold maxLen;omega
 have hm8:(m+1)*8≤140737488355328:=by omega
 have HNB:Hid (∀ o,((((w.setCell ⟨y,5,none⟩ (.int .i64 (opened+1))).alloc o).alloc (.cells #[.pointer (some ⟨w.heap.size,0,none⟩)] 96)).drew).heap[w.heap.size+1]?=some (.cells #[.pointer (some ⟨w.heap.size,0,none⟩)] 96 (0,0))):=af (fun o=>by
  have:=heap_alloc_new ((w.setCell ⟨y,5,none⟩ (.int .i64 (opened+1))).alloc o) (.cells #[.pointer (some ⟨w.heap.size,0,none⟩)] 96)
  have e:((w.setCell ⟨y,5,none⟩ (.int .i64 (opened+1))).alloc o).heap.size=w.heap.size+1:=by simp
  rw[e] at this
  exact this)
 have HY:Hid (∀ o (w3:World),((((w.setCell ⟨y,5,none⟩ (.int .i64 (opened+1))).alloc o).alloc (.cells #[.pointer (some ⟨w.heap.size,0,none⟩)] 96)).drew).grownBy w3 (Value.slice a m cp).ownBlock→w3.heap[y]?=some (.cells #[rv,.int .i64 room,.slice ac mc cc,kv,.slice a m cp,.int .i64 (opened+1)] 40 (0,0))):=af (fun o w3 hg=>by
  have h1:(w.setCell ⟨y,5,none⟩ (.int .i64 (opened+1))).heap[y]?=some (.cells #[rv,.int .i64 room,.slice ac mc cc,kv,.slice a m cp,.int .i64 (opened+1)] 40 (0,0)):=tL hb
  have h2:=((World.grownBy_alloc _ o none).block y (lt_of_block h1) (by simp)).trans h1
  have h3:=((World.grownBy_alloc _ (.cells #[.pointer (some ⟨w.heap.size,0,none⟩)] 96) none).block y (lt_of_block h2) (by simp)).trans h2
  exact (hg.block y (lt_of_block h3) (fun e=>hne e.symm)).trans h3)
 have HSS:Hid (∀ (w3:World),((((w.setCell ⟨y,5,none⟩ (.int .i64 (opened+1))).alloc (.cells #[.int .i64 (opened+1),.int .i64 mc,.slice none 0 0,.slice none 0 0] 100 (0,0))).alloc (.cells #[.pointer (some ⟨w.heap.size,0,none⟩)] 96)).drew).grownBy w3 (Value.slice a m cp).ownBlock→w3.heap[w.heap.size]?=some (.cells #[.int .i64 (opened+1),.int .i64 mc,.slice none 0 0,.slice none 0 0] 100 (0,0))):=af (fun w3 hg=>by
  have h1:=heap_alloc_new (w.setCell ⟨y,5,none⟩ (.int .i64 (opened+1))) (.cells #[.int .i64 (opened+1),.int .i64 mc,.slice none 0 0,.slice none 0 0] 100 (0,0))
  have e:(w.setCell ⟨y,5,none⟩ (.int .i64 (opened+1))).heap.size=w.heap.size:=by simp
  rw[e] at h1
  have h3:=((World.grownBy_alloc _ (.cells #[.pointer (some ⟨w.heap.size,0,none⟩)] 96) none).block _ (lt_of_block h1) (by simp)).trans h1
  exact (hg.block _ (lt_of_block h3) (fun e=>by have:=(hrow.lt _ e.symm).2;omega)).trans h3)
 have HFR:Hid (∀ o (w3:World),((((w.setCell ⟨y,5,none⟩ (.int .i64 (opened+1))).alloc o).alloc (.cells #[.pointer (some ⟨w.heap.size,0,none⟩)] 96)).drew).grownBy w3 (Value.slice a m cp).ownBlock→Fr (y::a.toList.map (·.block)) w w3):=af (fun o w3 hg=>by
  have h:=(((Fr.refl (y::a.toList.map (·.block)) w).set (a:=⟨y,5,none⟩) (.inl (by simp)) (.int .i64 (opened+1))).alloc o).alloc (.cells #[.pointer (some ⟨w.heap.size,0,none⟩)] 96)
  refine Fr.trans (b:=((((w.setCell ⟨y,5,none⟩ (.int .i64 (opened+1))).alloc o).alloc (.cells #[.pointer (some ⟨w.heap.size,0,none⟩)] 96)).drew)) ⟨h.os,h.tape,h.output,h.size,h.block⟩ ((Fr.grown hg).mono (fun g hg=>.inl ?_))
  cases a with
  |none=>simp[Value.ownBlock] at hg
  |some a=>simp[Value.ownBlock] at hg ⊢;exact .inr hg)
 have HH:Hid (∀ o,w.heap.size<((((w.setCell ⟨y,5,none⟩ (.int .i64 (opened+1))).alloc o).alloc (.cells #[.pointer (some ⟨w.heap.size,0,none⟩)] 96)).drew).heap.size):=af (fun o=>by
  have e:(((w.setCell ⟨y,5,none⟩ (.int .i64 (opened+1))).alloc o).alloc (.cells #[.pointer (some ⟨w.heap.size,0,none⟩)] 96)).heap.size=w.heap.size+1+1:=by simp
  have e2:((((w.setCell ⟨y,5,none⟩ (.int .i64 (opened+1))).alloc o).alloc (.cells #[.pointer (some ⟨w.heap.size,0,none⟩)] 96)).drew).heap.size=w.heap.size+1+1:=e
  omega)
 go_enter Tryz.func20,Tryz.ntmps20
 go_wp2_with fail
 go_region_law (
  refine step_append_lies _ rfl (.tmp 21) (.tmp 33) 38 rfl 0 96 i0 (.pointer none) 1 8 Tryz.underlying38 hi0 hz0 hz1 hz2 rfl (by decide) (.slice a m cp) m ps (by simp[Act.eval]) (dn (((ownsRow_setCell_other hrow hne _).alloc _).alloc _) rfl) ⟨w.heap.size+1,0,none⟩ 1 1 [.pointer (some ⟨w.heap.size,0,none⟩)] (by simp[Act.eval]) rfl (World.news_of_block (cs:=#[.pointer (some ⟨w.heap.size,0,none⟩)]) (t:=96) (fr:=(0,0)) (HNB.out _)) (fun u hu=>by simp at hu;subst hu;rfl) (by decide) hmx hm8 (Nat.zero_le _) _ rfl (fun g3 c3 w3 hv3 hg3 hn3 hl3=>?_)
  have hb3:w3.heap[y]?=some (.cells #[rv,.int .i64 room,.slice ac mc cc,kv,.slice a m cp,.int .i64 (opened+1)] 40 (0,0)):=HY.out _ w3 hg3
  have d3:w3.cell? ⟨y,4,none⟩=some (.slice a m cp):=by simp[World.cell?,hb3]
  have e3:w3.cell? ⟨y,5,none⟩=some (.int .i64 (opened+1)):=by simp[World.cell?,hb3]
  have z3:w3.frozen? ⟨y,4,none⟩=false:=by simp[World.frozen?,hb3])
 all_goals
  go_wp2_with fail
  go_ret2
  exact⟨rfl,g3,c3,w3,DS hn3 (by first|exact HH.out _|omega),hv3,hb3,HSS.out w3 hg3,HFR.out _ w3 hg3,rfl,(HFR.out _ w3 hg3).set (.inl (by simp)) _⟩
theorem uO (y:Nat)(m:Nat)(a:Option Addr)(cp:Nat)(w:World)(d4:w.cell? ⟨y,4,none⟩=some (.slice a m cp))(hm:8≤m)(hm2:m≤9223372036854775807):
  Calls Tryz.prog 20 #[.pointer (some ⟨y,0,none⟩)] w fun e w'=>e=.returned (.tuple #[.int .i64 0,.int .i64 7])∧w'=w:=by
 go_enter Tryz.func20,Tryz.ntmps20
 go_wp2_with fail
 go_ret2
 exact⟨rfl,rfl⟩
def cC (E:bm):(Int×Int)×bm:=if 8≤E.opn.length then ((0,7),E) else ((E.opened+1,0),{ E with opened:=E.opened+1,opn:=E.opn++[⟨E.opened+1,E.com.length,[],[]⟩] })
theorem w8 {Q:Value→eW}(hQ:∀ v,bT (Q v))(hQw:∀ v,bW (Q v)){y:Nat}{E:bm}{w:World}{f:List Nat}(hE:bJ Q y E w f)(hn:f.Nodup)(hlen:E.opn.length≤8)(ho:0≤E.opened∧E.opened<9223372036854775807)(hcl:E.com.length≤9223372036854775806):
  Calls Tryz.prog 20 #[.pointer (some ⟨y,0,none⟩)] w fun e w'=>e=.returned (.tuple #[.int .i64 (cC E).1.1,.int .i64 (cC E).1.2])∧gk Q y (cC E).2 f w w':=by
 have hE0:=hE
 obtain⟨rv,cv,kv,ov,cs,ps,hst⟩:=hE0
 have hwi:∀ x∈f,x<w.heap.size:=fun x hx=>bY.within (eY.within _ _ _) (bY.within (hQw rv) (bY.within (bn.within _ _ _ _ _) (bY.within (aB.within (fun _ _=>bn.within _ _ _ _ _) _ _) (bY.within (bn.within _ _ _ _ _) (bY.within (bn.within _ _ _ _ _) (aB.within ez.within _ _)))))) hst x hx
 obtain⟨f1,f2,⟨hb,rfl⟩,⟨f3,f4,hq,⟨f5,f6,hcr,⟨f7,f8,hcom,⟨f9,f10,hkr,⟨f11,f12,⟨hor,rfl⟩,hses,rfl⟩,rfl⟩,rfl⟩,rfl⟩,rfl⟩,rfl⟩:=hst
 obtain⟨a,m,cp,rfl⟩:=an hor
 obtain⟨ac,mc,cc,rfl⟩:=an hcr.1
 have em:=au hor
 have emc:=au hcr.1
 subst em
 subst emc
 have hob:(Value.slice a E.opn.length cp).ownBlock.toList=a.toList.map (·.block):=by cases a <;> rfl
 unfold cC
 by_cases h8:8≤E.opn.length
 ·rw[if_pos h8]
  refine (uO y E.opn.length a cp w (by simp[World.cell?,hb]) h8 (by omega)).mono ?_
  rintro e w' ⟨rfl,rfl⟩
  exact⟨rfl,gk.same hE hn⟩
 ·rw[if_neg h8]
  refine (ux y E.opn.length rv kv E.room E.opened ps ac E.com.length cc a E.opn.length cp w hb hor (by omega) ho (by omega)).mono ?_
  rintro e w' ⟨rfl,g3,c3,w3,hg3,hv3,hy3,hs3,hf3,hw',hfr⟩
  refine⟨rfl,?_⟩
  rw[hob] at hn hwi
  have hyl:=lt_of_block hb
  have hy4:w'.heap[y]?=some (.cells #[rv,.int .i64 E.room,.slice ac E.com.length cc,kv,.slice (some ⟨g3,0,none⟩) (E.opn.length+1) c3,.int .i64 (E.opened+1)] 40 (0,0)):=by rw[hw'];exact mA hy3
  have hs4:w'.heap[w.heap.size]?=some (.cells #[.int .i64 (E.opened+1),.int .i64 E.com.length,.slice none 0 0,.slice none 0 0] 100 (0,0)):=by
   rw[hw',Below.heap_setCell w3 _ _ _ (by simp;omega)]
   exact hs3
  have hv4:=dn (ownsRow_setCell_other hv3 (aU hv3 hy3 (by decide)) (.slice (some ⟨g3,0,none⟩) (E.opn.length+1) c3)) hw'
  have hdis:∀ x,x∈f3∨x∈f5∨x∈f7∨x∈f9∨x∈f12→x∉y::a.toList.map (·.block):=by
   simp only[List.nodup_append,List.mem_append,List.mem_singleton] at hn
   intro x hx hx2
   simp only[List.mem_cons] at hx2
   grind
  have hS:ez (.pointer (some ⟨w.heap.size,0,none⟩)) ⟨E.opened+1,E.com.length,[],[]⟩ w' [w.heap.size]:=
   ⟨w.heap.size,_,_,rfl,[w.heap.size],[],⟨hs4,rfl⟩,⟨[],[],bn.nil _ _ _,bn.nil _ _ _,rfl⟩,rfl⟩
  have hE2:=aB.snoc hS (aB.framed ez.framed _ _ hses hfr (fun x hx=>hdis x (by simp[hx])))
  refine⟨[y]++(f3++(f5++(f7++(f9++([g3]++(f12++[w.heap.size])))))),⟨rv,_,kv,_,cs,_,[y],_,⟨hy4,rfl⟩,⟨f3,_,hQ rv hq hfr (fun x hx=>hdis x (by simp[hx])),⟨f5,_,bn.framed _ _ _ _ _ hcr hfr (fun x hx=>hdis x (by simp[hx])),⟨f7,_,aB.framed im.framed _ _ hcom hfr (fun x hx=>hdis x (by simp[hx])),⟨f9,_,bn.framed _ _ _ _ _ hkr hfr (fun x hx=>hdis x (by simp[hx])),⟨[g3],_,⟨?_,rfl⟩,hE2,rfl⟩,rfl⟩,rfl⟩,rfl⟩,rfl⟩,rfl⟩,?_,?_,?_⟩
  ·simp only[List.length_append,List.length_cons,List.length_nil]
   exact hv4
  ·have hg4:g3∈a.toList.map (·.block)∨w.heap.size<g3:=by
    rcases hg3 with h|h
    ·exact .inl (by cases a <;> simp_all)
    ·exact .inr h
   have hsz:∀ x∈([y]++(f3++(f5++(f7++f9))))++(a.toList.map (·.block)++f12),x<w.heap.size:=by
    intro x hx
    apply hwi x
    simp only[List.append_assoc] at hx ⊢
    exact hx
   have hn3:(([y]++(f3++(f5++(f7++f9))))++(a.toList.map (·.block)++f12)).Nodup:=by
    simp only[List.append_assoc] at hn ⊢
    exact hn
   have hn4:=eb (g':=[g3]) hn3 hsz (by simp) (fun x hx=>by
    simp only[List.mem_singleton] at hx
    subst hx
    rcases hg4 with h|h
    ·exact .inl h
    ·exact .inr (by omega))
   have hn5:((([y]++(f3++(f5++(f7++f9))))++([g3]++f12))++[w.heap.size]).Nodup:=by
    rw[List.nodup_append]
    refine⟨hn4,by simp,?_⟩
    intro x hx b hb
    simp only[List.mem_singleton] at hb
    subst hb
    rintro rfl
    have hlt:∀ x∈([y]++(f3++(f5++(f7++f9))))++([g3]++f12),x<w.heap.size∨w.heap.size<x:=by
     intro x hx
     simp only[List.mem_append,List.mem_singleton] at hx hsz
     by_cases e:x=g3
     ·subst e
      rcases hg4 with h|h
      ·exact .inl (hsz x (.inr (.inl h)))
      ·exact .inr h
     ·left
      apply hsz x
      grind
    have:=hlt _ hx
    omega
   simp only[List.append_assoc] at hn5 ⊢
   exact hn5
  ·intro x hx
   have hg4:x=g3→x∈a.toList.map (·.block)∨w.heap.size≤x:=by
    rintro rfl
    rcases hg3 with h|h
    ·exact .inl (by cases a <;> simp_all)
    ·exact .inr (by omega)
   rw[hob]
   simp only[List.mem_append,List.mem_singleton] at hx ⊢
   grind
  ·exact hfr.mono (fun x hx=>.inl (by rw[hob];simp at hx ⊢;rcases hx with h|h <;> simp[h]))
def hJ (opn:List br)(ps:List Value)(n:Int)(k:Nat):List (br×Value):=((opn.zip ps).take k).filter (fun q=>q.1.num != n)
theorem xm {opn:List br}{ps:List Value}{n:Int}{k:Nat}(h1:k<opn.length)(h2:k<ps.length):hJ opn ps n (k+1)=hJ opn ps n k++(if opn[k].num=n then [] else [(opn[k],ps[k])]):=by
 unfold hJ
 have hz:k<(opn.zip ps).length:=by simp;omega
 rw[List.take_succ_eq_append_getElem hz,List.filter_append]
 congr 1
 by_cases e:opn[k].num=n <;> simp[e]
theorem DQ (opn:List br)(ps:List Value)(n:Int)(k:Nat):(hJ opn ps n k).length≤k:=by
 unfold hJ
 exact Nat.le_trans (List.length_filter_le _ _) (by simp;omega)
theorem AU (y:Nat)(opn:List br)(ps:List Value)(fs:List Nat)(n:Int)(a:Option Addr)(m cp:Nat)(w:World)(rv cv kv:Value)(room opened:Int)
  (hb:w.heap[y]?=some (.cells #[rv,.int .i64 room,cv,kv,.slice a m cp,.int .i64 opened] 40 (0,0))) (hrow:w.ownsRow 0 96 1 (.slice a m cp) opn.length ps) (hses:aB ez ps opn w fs) (hlen:opn.length≤8) :
  Calls Tryz.prog 52 #[.pointer (some ⟨y,0,none⟩),.int .i64 n] w fun e w'=>e=.returned (.tuple #[])∧∃ v w3,w3.ownsRow w.heap.size 96 1 v (hJ opn ps n opn.length).length ((hJ opn ps n opn.length).map (·.2))∧w.grownBy w3 none∧w'.heap=(w3.setCell ⟨y,4,none⟩ v).heap∧Fr [y] w w':=by
 obtain⟨i0,hi0,hz0,hz1,hz2⟩:=info_parts Tryz.info96
 have em:=au hrow
 subst em
 have hpl:=aB.len hses
 have HS:=af hses
 have hyl:=lt_of_block hb
 have HB:=af hb
 have HR:=af hrow
 clear hses hrow hb
 go_enter Tryz.func52,Tryz.ntmps52
 go_wp2_with fail
 go_loopw [4,5] (fun v t wr=>∃ k:Nat,k≤opn.length∧t=.int .i64 k∧wr.ownsRow w.heap.size 96 1 v (hJ opn ps n k).length ((hJ opn ps n k).map (·.2))∧w.grownBy wr none) (fun _ t _=>opn.length - (intOf t).toNat)
 case atStart=>exact⟨0,by omega,rfl,World.ownsRow_nil _ _ _ _,ag _ _⟩
 case round=>
  obtain⟨k,hk,rfl,hown,hg⟩:=hrel
  obtain⟨va,vm,vc,rfl⟩:=an hown
  have hbw:=(hg.block y hyl (by simp)).trans HB.out
  have d4:wr.cell? ⟨y,4,none⟩=some (.slice a opn.length cp):=by simp[World.cell?,hbw]
  have z4:wr.frozen? ⟨y,4,none⟩=false:=by simp[World.frozen?,hbw]
  by_cases hlt:k<opn.length
  ·have hlt2:k<ps.length:=by omega
   obtain⟨g,rfl,_,hgb,hgl,hcell⟩:=aC HR.out (by omega)
   obtain⟨f1,hse,_⟩:=aB.get HS.out k hlt2 hlt
   obtain⟨g1,a1,m1,c1,a2,m2,c2,hp,hb1,_,_,_⟩:=hse.open
   have d0:wr.cell? ⟨g,k,none⟩=some (.pointer (some ⟨g1,0,none⟩)):=by
    rw[hg.cell_far ⟨g,k,none⟩ hgl (by simp),←hp]
    exact hcell k _ (List.getElem?_eq_getElem hlt2)
   have d1:wr.cell? ⟨g1,0,none⟩=some (.int .i64 opn[k].num):=by
    rw[hg.cell_far ⟨g1,0,none⟩ (lt_of_block hb1) (by simp)]
    simp[World.cell?,hb1]
   have HL:=af (xm (n:=n) hlt hlt2)
   obtain⟨nn,hnn⟩:∃ nn,nn=opn[k].num:=⟨_,rfl⟩
   rw[←hnn] at d1 HL
   clear hcell hse hb1 hnn hbw
   have hll:=DQ opn ps n k
   by_cases e:nn=n
   ·have HL2:Hid (hJ opn ps n (k+1)=hJ opn ps n k):=af (by rw[HL.out,if_pos e];simp)
    subst e
    go_wp2_with fail
    go_roundw
    case rel=>exact⟨k+1,by omega,by go_num,by rw[HL2.out];exact hown,hg⟩
    case measure=>simp[intOf];omega
   ·have HL2:Hid (hJ opn ps n (k+1)=hJ opn ps n k++[(opn[k],ps[k])]):=af (by rw[HL.out,if_neg e])
    rw[hp] at HL2
    have hbs:w.heap.size≤(wr.alloc (.cells #[.pointer (some ⟨g1,0,none⟩)] 96)).heap.size:=Nat.le_trans hg.size (World.grownBy_alloc wr _ none).size
    go_wp2_with (first|(at_builtin;refine wpList_append_own _ rfl (.tmp 27) (.tmp 35) 38 rfl (w.heap.size) 96 i0 (.pointer none) 1 8 Tryz.underlying38 hi0 hz0 hz1 hz2 rfl (by decide) _ _ _ rfl (hown.alloc _) _ 1 1 [.pointer (some ⟨g1,0,none⟩)] rfl rfl (fun j u hj=>bj hj) (fun u hu=>by simp at hu;subst hu;rfl) (by unfold maxLen;omega) (by omega) hbs ?_))
    ·intro v' w3 hown3 hg3 _
     have hown3':w3.ownsRow w.heap.size 96 1 v' (hJ opn ps n (k+1)).length ((hJ opn ps n (k+1)).map (·.2)):=by rw[HL2.out];simpa using hown3
     have hg3':w.grownBy w3 none:=aL (ab hg _) hg3 (fun g hg=>(hown.lt g hg).1)
     clear hown3 hg3 hown hg d0 d1 d4 z4
     go_wp2
     go_roundw
     case rel=>exact⟨k+1,by omega,by go_num,hown3',hg3'⟩
     case measure=>simp[intOf];omega
  ·have e:k=opn.length:=by omega
   subst e
   go_wp2_with fail
   go_returns
   exact⟨rfl,_,wr,hown,hg,rfl,((Fr.grown hg).mono (fun g hg=>by cases hg)).set (.inl (by simp)) _⟩
theorem ym {f1 f2 g:List Nat}(h:g.Sublist f2):g.Sublist (f1++f2):=h.trans (List.sublist_append_right _ _)
theorem aB.left {α:Type}{P:Value→α→eW}(c:α→Bool):∀ {vs:List Value} {zs:List α} {w:World} {f:List Nat},aB P vs zs w f→
  ∃ g,aB P (((zs.zip vs).filter (fun q=>c q.1)).map (·.2)) (zs.filter c) w g∧g.Sublist f∧((zs.zip vs).filter (fun q=>c q.1)).length=(zs.filter c).length
 |[],[],w,f,h=>⟨[],rfl,by simp,rfl⟩
 |v::vs,a::zs,w,f,⟨f1,f2,h1,h2,e⟩=>by
  obtain⟨g,h3,h4,h5⟩:=aB.left c h2
  subst e
  cases hc:c a
  ·refine⟨g,by simpa [hc] using h3,ym h4,by simpa [hc] using h5⟩
  ·refine⟨f1++g,?_,List.Sublist.append (List.Sublist.refl _) h4,by simpa [hc] using h5⟩
   simp only[List.zip_cons_cons,List.filter_cons,hc,if_true,List.map_cons]
   exact⟨f1,g,h1,h3,rfl⟩
 |[],_::_,_,_,h=>h.elim
 |_::_,[],_,_,h=>h.elim
def dF (E:bm)(n:Int):bm:={ E with opn:=E.opn.filter (fun S=>S.num != n) }
theorem mO {Q:Value→eW}(hQ:∀ v,bT (Q v))(hQw:∀ v,bW (Q v)){y:Nat}{E:bm}{w:World}{f:List Nat}(n:Int)(hE:bJ Q y E w f)(hn:f.Nodup)(hlen:E.opn.length≤8):
  Calls Tryz.prog 52 #[.pointer (some ⟨y,0,none⟩),.int .i64 n] w fun e w'=>e=.returned (.tuple #[])∧gk Q y (dF E n) f w w':=by
 obtain⟨rv,cv,kv,ov,cs,ps,hst⟩:=hE
 have hwi:∀ x∈f,x<w.heap.size:=fun x hx=>bY.within (eY.within _ _ _) (bY.within (hQw rv) (bY.within (bn.within _ _ _ _ _) (bY.within (aB.within (fun _ _=>bn.within _ _ _ _ _) _ _) (bY.within (bn.within _ _ _ _ _) (bY.within (bn.within _ _ _ _ _) (aB.within ez.within _ _)))))) hst x hx
 obtain⟨f1,f2,⟨hb,rfl⟩,⟨f3,f4,hq,⟨f5,f6,hcr,⟨f7,f8,hcom,⟨f9,f10,hkr,⟨f11,f12,⟨hor,rfl⟩,hses,rfl⟩,rfl⟩,rfl⟩,rfl⟩,rfl⟩,rfl⟩:=hst
 obtain⟨a,m,cp,rfl⟩:=an hor
 refine (AU y E.opn ps f12 n a m cp w rv cv kv E.room E.opened hb hor hses hlen).mono ?_
 rintro e w' ⟨rfl,v,w3,hv3,hg3,hw',hfr⟩
 refine⟨rfl,?_⟩
 have hpl:=aB.len hses
 have hyl:=lt_of_block hb
 have hy3:=(hg3.block y hyl (by simp)).trans hb
 have hy4:w'.heap[y]?=some (.cells #[rv,.int .i64 E.room,cv,kv,v,.int .i64 E.opened] 40 (0,0)):=by rw[hw'];exact mA hy3
 have hv4:=bN (dn (ownsRow_setCell_other hv3 (aU hv3 hy3 (by decide)) v) hw') (Nat.zero_le _)
 obtain⟨g,h3,h4,h5⟩:=aB.left (fun S:br=>S.num != n) hses
 have hz:hJ E.opn ps n E.opn.length=(E.opn.zip ps).filter (fun q=>q.1.num != n):=by
  unfold hJ
  rw[List.take_of_length_le (by simp;omega)]
 rw[hz,h5] at hv4
 have hdis:∀ x,x∈f3∨x∈f5∨x∈f7∨x∈f9∨x∈f12→x∉[y]:=by
  simp only[List.nodup_append,List.mem_append,List.mem_singleton] at hn
  intro x hx hx2
  simp only[List.mem_singleton] at hx2
  grind
 have hE2:=aB.framed ez.framed _ _ h3 hfr (fun x hx=>hdis x (by simp[h4.subset hx]))
 have hvb:∀ x∈v.ownBlock.toList,w.heap.size≤x:=by
  intro x hx
  cases hb:v.ownBlock with
  |none=>rw[hb] at hx;cases hx
  |some z=>
   rw[hb] at hx
   simp at hx
   subst hx
   exact (hv3.lt _ hb).1
 refine⟨[y]++(f3++(f5++(f7++(f9++(v.ownBlock.toList++g))))),⟨rv,_,kv,v,cs,_,[y],_,⟨hy4,rfl⟩,⟨f3,_,hQ rv hq hfr (fun x hx=>hdis x (by simp[hx])),⟨f5,_,bn.framed _ _ _ _ _ hcr hfr (fun x hx=>hdis x (by simp[hx])),⟨f7,_,aB.framed im.framed _ _ hcom hfr (fun x hx=>hdis x (by simp[hx])),⟨f9,_,bn.framed _ _ _ _ _ hkr hfr (fun x hx=>hdis x (by simp[hx])),⟨v.ownBlock.toList,g,⟨hv4,rfl⟩,hE2,rfl⟩,rfl⟩,rfl⟩,rfl⟩,rfl⟩,rfl⟩,?_,?_,?_⟩
 ·have hn3:(([y]++(f3++(f5++(f7++f9))))++((Value.slice a m cp).ownBlock.toList++g)).Nodup:=by
   refine List.Nodup.sublist ?_ hn
   simp only[List.append_assoc]
   exact List.Sublist.append (List.Sublist.refl _) (List.Sublist.append (List.Sublist.refl _) (List.Sublist.append (List.Sublist.refl _) (List.Sublist.append (List.Sublist.refl _) (List.Sublist.append (List.Sublist.refl _) (List.Sublist.append (List.Sublist.refl _) h4)))))
  have hsz:∀ x∈([y]++(f3++(f5++(f7++f9))))++((Value.slice a m cp).ownBlock.toList++g),x<w.heap.size:=by
   intro x hx
   apply hwi x
   simp only[List.mem_append] at hx ⊢
   have:x∈g→x∈f12:=fun h=>h4.subset h
   grind
  have:=eb (g':=v.ownBlock.toList) hn3 hsz (by cases v.ownBlock <;> simp) (fun x hx=>.inr (hvb x hx))
  simp only[List.append_assoc] at this ⊢
  exact this
 ·intro x hx
  simp only[List.mem_append] at hx ⊢
  have h6:x∈g→x∈f12:=fun h=>h4.subset h
  have h7:=hvb x
  grind
 ·exact hfr.mono (fun x hx=>.inl (by simp at hx ⊢;simp[hx]))
def cR (E:bm)(n:Int):Int×bm:=match eK E.opn n with
 |none=>(6,E)
 |some _=>(0,dF E n)
theorem xk {Q:Value→eW}(hQ:∀ v,bT (Q v))(hQw:∀ v,bW (Q v)){y:Nat}{E:bm}{w:World}{f:List Nat}(n:Int)(hE:bJ Q y E w f)(hn:f.Nodup)(hlen:E.opn.length≤8):
  Calls Tryz.prog 28 #[.pointer (some ⟨y,0,none⟩),.int .i64 n] w fun e w'=>e=.returned (.int .i64 (cR E n).1)∧gk Q y (cR E n).2 f w w':=by
 have HEND:=af (mO hQ hQw n hE hn hlen)
 have HSAME:=af (gk.same hE hn)
 obtain⟨rv,cv,kv,ov,cs,ps,f1,f2,⟨hb,rfl⟩,⟨f3,f4,_,⟨f5,f6,_,⟨f7,f8,_,⟨f9,f10,_,⟨f11,f12,⟨hor,_⟩,hses,_⟩,_⟩,_⟩,_⟩,_⟩,_⟩:=hE
 obtain⟨ao,mo,co,rfl⟩:=an hor
 have HF:=af (dR y E.opn ps f12 n ao mo co w (by simp[World.cell?,hb]) hor hses (by omega))
 have HS:=af hses
 clear hb hor hses hn hQ hQw
 unfold cR
 cases hi:eK E.opn n with
 |none=>
  have hno:=lB hi
  go_enter Tryz.func28,Tryz.ntmps28
  go_wp2_with fail
  go_at_call 44
  refine HF.out.mono ?_
  rintro e w' ⟨⟨u,rfl,hans⟩,rfl⟩
  have hu:u=.pointer none:=by
   rcases hans with ⟨k',h1,h2,hn1,hn2,rfl⟩|⟨hn,h⟩
   ·exact absurd hn1 (hno k' h1)
   ·exact h
  subst hu
  clear hans HF hno hi
  go_wp2_with fail
  go_ret
  exact⟨rfl,HSAME.out⟩
 |some k=>
  obtain⟨hk,hk1,hk2⟩:=iH hi
  go_enter Tryz.func28,Tryz.ntmps28
  go_wp2_with fail
  go_at_call 44
  refine HF.out.mono ?_
  rintro e w' ⟨⟨u,rfl,hans⟩,rfl⟩
  obtain⟨g1,rfl⟩:∃ g1,u=.pointer (some ⟨g1,0,none⟩):=by
   rcases hans with ⟨k',h1,h2,hn1,hn2,rfl⟩|⟨hn,_⟩
   ·obtain⟨_,hse,_⟩:=aB.get HS.out k' h2 h1
    obtain⟨g1,_,_,_,_,_,_,hp,_⟩:=hse.open
    exact⟨g1,hp⟩
   ·exact absurd hk1 (hn k hk)
  clear hans HF hk1 hk2 hi HS
  go_wp2_with fail
  go_at_call 52
  refine HEND.out.mono ?_
  rintro e w1 ⟨rfl,ht⟩
  have HT:=af ht
  clear ht
  go_wp2_with fail
  go_ret
  exact⟨rfl,HT.out⟩
end Go.Proofs.YthlhbjnkohinmaaGreat
