import Derived.Test.YthlhbjnkohinmaaGreatP24
import Derived.Deep.RegionLaw
import Derived.Deep.AppendLies
namespace Go.Proofs.YthlhbjnkohinmaaGreat
set_option maxRecDepth 100000
set_option maxHeartbeats 8000000
open Go.RowKit
theorem Tryz.info107:(Tryz.prog.info? 107).map (fun i=>(i.zero,i.size,i.bytes))=some (some (.agg #[.string ByteArray.empty,.int .i64 0]),2,24):=by kernel_rfl
theorem Cp {x:Int}(h1:48≤x)(h2:x≤57):IntKind.i64.wrap (IntKind.u8.wrap (x - 48))=x - 48:=by
 rw[show x=((x - 48).toNat:Nat)+48 by omega]
 have:(x - 48).toNat<10:=by omega
 revert this
 generalize (x - 48).toNat=n
 intro h
 match n,h with
 |0,_|1,_|2,_|3,_|4,_|5,_|6,_|7,_|8,_|9,_=>rfl
theorem s7 {w w3:World}{o:Obj}{a1:Option Addr}{m1 c1:Nat}(hg:(w.alloc o).grownBy w3 (Value.slice a1 m1 c1).ownBlock):Fr (a1.toList.map (·.block)) w w3:=by
 have h:=(Fr.refl (a1.toList.map (·.block)) w).alloc o
 refine Fr.trans (b:=w.alloc o) ⟨h.os,h.tape,h.output,h.size,h.block⟩ ((Fr.grown hg).mono (fun g hg=>.inl ?_))
 cases a1 with
 |none=>simp[Value.ownBlock] at hg
 |some a=>simpa [Value.ownBlock] using hg
theorem CG {w w3:World}{o:Obj}{a1:Option Addr}{m1 c1:Nat}(hg:(w.alloc o).drew.grownBy w3 (Value.slice a1 m1 c1).ownBlock):Fr (a1.toList.map (·.block)) w w3:=
 s7 (o:=o) (m1:=m1) (c1:=c1) ⟨hg.os,hg.tape,hg.output,hg.size,hg.block⟩
theorem CD {w:World}{a1:Option Addr}{m1 c1 g3 H:Nat}(h:(Value.slice a1 m1 c1).ownBlock=some g3∨g3=H)(hH:w.heap.size≤H):a1.map (·.block)=some g3∨w.heap.size≤g3:=by
 rcases h with h|h
 ·left
  cases a1 with
  |none=>simp[Value.ownBlock] at h
  |some a=>simpa [Value.ownBlock] using h
 ·exact .inr (by rw[h];exact hH)
theorem By (y:Nat)(opn:List bu)(ps:List Value)(fs:List Nat)(n:Int)(s:ByteArray)(a:Option Addr)(m cp k:Nat)(w:World)
  (hc:w.cell? ⟨y,4,none⟩=some (.slice a m cp)) (hrow:w.ownsRow 0 96 1 (.slice a m cp) opn.length ps) (hses:aB eC ps opn w fs) (hlen:opn.length≤8)
  (hk:k<opn.length) (hk1:opn[k].num=n) (hk2:∀ j (h:j<opn.length),j<k→opn[j].num≠n) (hf:eR s=true) (hwl:(opn[k].wr.length+1)*24≤140737488355328)
  (g1:Nat) (a1:Option Addr) (m1 c1:Nat) (fv:Value) (hpk:∀ h:k<ps.length,ps[k]=.pointer (some ⟨g1,0,none⟩)) (hb:w.heap[g1]?=some (.cells #[.int .i64 opn[k].num,.int .i64 opn[k].snap,.slice a1 m1 c1,fv] 100 (0,0)))
  (hown:w.ownsRow 0 107 2 (.slice a1 m1 c1) opn[k].wr.length (aP opn[k].wr)) :
  Calls Tryz.prog 22 #[.pointer (some ⟨y,0,none⟩),.int .i64 n,.string s] w fun e w'=>e=.returned (.int .i64 0)∧
   ∃ g3 c' w3,(a1.map (·.block)=some g3∨w.heap.size≤g3)∧w3.ownsRow 0 107 2 (.slice (some ⟨g3,0,none⟩) (opn[k].wr.length+1) c') (opn[k].wr.length+1) (aP opn[k].wr++[.string (s.extract 0 2),.int .i64 (bt s 2 - 48)])∧Fr (a1.toList.map (·.block)) w w3∧w'.heap=(w3.setCell ⟨g1,2,none⟩ (.slice (some ⟨g3,0,none⟩) (opn[k].wr.length+1) c')).heap∧Fr (g1::a1.toList.map (·.block)) w w':=by
 obtain⟨i0,hi0,hz0,hz1,hz2⟩:=info_parts Tryz.info107
 simp only[eR,Bool.and_eq_true,beq_iff_eq] at hf
 obtain⟨⟨⟨hs3,f0⟩,f1⟩,f2⟩:=hf
 have s0:0<s.size:=by omega
 have s1:1<s.size:=by omega
 have s2:2<s.size:=by omega
 have hf2:48≤bt s 2∧bt s 2≤57:=by simpa [bN] using f2
 have HB2:=af (bh s2)
 have bb0:=bX s 0
 have bb1:=bX s 1
 have bb2:=bX s 2
 rw[bh s0] at f0 bb0
 rw[bh s1] at f1 bb1
 rw[bh s2] at f2 bb2 hf2
 have HF:=af (dT y opn ps fs n a m cp w hc hrow hses (by omega))
 have hpl:=aB.len hses
 have HC0:=af (fun W=>gS ((s[0]'s0).toNat:Int) W bb0.1 bb0.2)
 have HC1:=af (fun W=>eY ((s[1]'s1).toNat:Int) W bb1.1 bb1.2)
 have HC2:=af (fun W=>eY ((s[2]'s2).toNat:Int) W bb2.1 bb2.2)
 rw[f0] at HC0
 rw[f1] at HC1
 rw[f2] at HC2
 have d2:w.cell? ⟨g1,2,none⟩=some (.slice a1 m1 c1):=by simp[World.cell?,hb]
 have z2:w.frozen? ⟨g1,2,none⟩=false:=by simp[World.frozen?,hb]
 have hg1l:=lt_of_block hb
 have em:=ar hown
 have hne:=aT hown hb (by decide)
 clear hses hrow f0 f1 f2
 go_enter Tryz.func22,Tryz.ntmps22
 go_wp2_with fail
 go_at_call 44
 refine HF.out.mono ?_
 rintro e w' ⟨⟨u,rfl,hans⟩,rfl⟩
 have hu:u=.pointer (some ⟨g1,0,none⟩):=by
  rcases hans with ⟨k',h1,h2,hn1,hn2,rfl⟩|⟨hn,_⟩
  ·have e:k'=k:=by
    rcases Nat.lt_trichotomy k' k with h|h|h
    ·exact absurd hn1 (hk2 k' h1 h)
    ·exact h
    ·exact absurd hk1 (hn2 k hk h)
   subst e
   exact hpk h2
  ·exact absurd hk1 (hn k hk)
 subst hu
 clear hans HF hk1 hk2 hpk
 go_wp2_with fail
 go_at_call 45
 refine (HC0.out _).mono ?_
 rintro e w' ⟨rfl,rfl⟩
 go_wp2_with fail
 go_at_call 46
 refine (HC1.out _).mono ?_
 rintro e w' ⟨rfl,rfl⟩
 go_wp2_with fail
 go_at_call 46
 refine (HC2.out _).mono ?_
 rintro e w' ⟨rfl,rfl⟩
 go_wp2_with fail
 have hmx:opn[k].wr.length+1≤maxLen:=by unfold maxLen;omega
 go_region_law (
  refine step_append_lies _ rfl (.tmp 38) (.tmp 46) 97 rfl 0 107 i0 (.agg #[.string ByteArray.empty,.int .i64 0]) 2 24 Tryz.underlying97 hi0 hz0 hz1 hz2 rfl (by decide) (.slice a1 m1 c1) opn[k].wr.length (aP opn[k].wr) (by simp[Act.eval,em]) (dx (hown.alloc _) rfl) ⟨w'.heap.size,0,none⟩ 1 1 [.string (s.extract 0 2),.int .i64 (IntKind.i64.wrap (IntKind.u8.wrap (((s[2]'s2).toNat:Int) - 48)))] (by simp[Act.eval]) rfl (fun j u hj=>bj hj) (fun u hu=>by simp at hu;rcases hu with h|h <;> subst h <;> rfl) (by decide) hmx hwl (Nat.zero_le _) _ rfl (fun g3 c3 w3 hv3 hg3 hn3 hl3=>?_)
  have hb3:w3.heap[g1]?=some (.cells #[.int .i64 opn[k].num,.int .i64 opn[k].snap,.slice a1 m1 c1,fv] 100 (0,0)):=by
   exact (hg3.block g1 (Nat.lt_of_lt_of_le hg1l (World.grownBy_alloc w' _ none).size) (fun e=>hne e.symm)).trans (((World.grownBy_alloc w' _ none).block g1 hg1l (by simp)).trans hb)
  have d3:w3.cell? ⟨g1,2,none⟩=some (.slice a1 m1 c1):=by simp[World.cell?,hb3]
  have z3:w3.frozen? ⟨g1,2,none⟩=false:=by simp[World.frozen?,hb3])
 all_goals
  go_wp2_with fail
  go_ret
  refine⟨rfl,g3,c3,w3,CD hn3 (World.grownBy_alloc w' _ none).size,?_,?_,rfl,?_⟩
  ·rw[Cp hf2.1 hf2.2,←HB2.out] at hv3
   exact hv3
  ·exact CG hg3
  ·exact ((CG hg3).mono (fun g hg=>.inl (by simp at hg ⊢;exact .inr hg))).set (.inl (by simp)) _
theorem ud (y:Nat)(opn:List bu)(ps:List Value)(fs:List Nat)(n:Int)(s:ByteArray)(a:Option Addr)(m cp k:Nat)(w:World)
  (hc:w.cell? ⟨y,4,none⟩=some (.slice a m cp)) (hrow:w.ownsRow 0 96 1 (.slice a m cp) opn.length ps) (hses:aB eC ps opn w fs) (hlen:opn.length≤8)
  (hk:k<opn.length) (hk1:opn[k].num=n) (hk2:∀ j (h:j<opn.length),j<k→opn[j].num≠n) (hf:eE s=true) (hwl:(opn[k].wr.length+1)*24≤140737488355328)
  (g1:Nat) (a1:Option Addr) (m1 c1:Nat) (fv:Value) (hpk:∀ h:k<ps.length,ps[k]=.pointer (some ⟨g1,0,none⟩)) (hb:w.heap[g1]?=some (.cells #[.int .i64 opn[k].num,.int .i64 opn[k].snap,.slice a1 m1 c1,fv] 100 (0,0)))
  (hown:w.ownsRow 0 107 2 (.slice a1 m1 c1) opn[k].wr.length (aP opn[k].wr)) :
  Calls Tryz.prog 24 #[.pointer (some ⟨y,0,none⟩),.int .i64 n,.string s] w fun e w'=>e=.returned (.int .i64 0)∧
   ∃ g3 c' w3,(a1.map (·.block)=some g3∨w.heap.size≤g3)∧w3.ownsRow 0 107 2 (.slice (some ⟨g3,0,none⟩) (opn[k].wr.length+1) c') (opn[k].wr.length+1) (aP opn[k].wr++[.string s,.int .i64 (-1)])∧Fr (a1.toList.map (·.block)) w w3∧w'.heap=(w3.setCell ⟨g1,2,none⟩ (.slice (some ⟨g3,0,none⟩) (opn[k].wr.length+1) c')).heap∧Fr (g1::a1.toList.map (·.block)) w w':=by
 obtain⟨i0,hi0,hz0,hz1,hz2⟩:=info_parts Tryz.info107
 simp only[eE,Bool.and_eq_true,beq_iff_eq] at hf
 obtain⟨⟨hs3,f0⟩,f1⟩:=hf
 have s0:0<s.size:=by omega
 have s1:1<s.size:=by omega
 have bb0:=bX s 0
 have bb1:=bX s 1
 rw[bh s0] at f0 bb0
 rw[bh s1] at f1 bb1
 have HF:=af (dT y opn ps fs n a m cp w hc hrow hses (by omega))
 have hpl:=aB.len hses
 have HC0:=af (fun W=>gS ((s[0]'s0).toNat:Int) W bb0.1 bb0.2)
 have HC1:=af (fun W=>eY ((s[1]'s1).toNat:Int) W bb1.1 bb1.2)
 rw[f0] at HC0
 rw[f1] at HC1
 have d2:w.cell? ⟨g1,2,none⟩=some (.slice a1 m1 c1):=by simp[World.cell?,hb]
 have z2:w.frozen? ⟨g1,2,none⟩=false:=by simp[World.frozen?,hb]
 have hg1l:=lt_of_block hb
 have em:=ar hown
 have hne:=aT hown hb (by decide)
 clear hses hrow f0 f1
 go_enter Tryz.func24,Tryz.ntmps24
 go_wp2_with fail
 go_at_call 44
 refine HF.out.mono ?_
 rintro e w' ⟨⟨u,rfl,hans⟩,rfl⟩
 have hu:u=.pointer (some ⟨g1,0,none⟩):=by
  rcases hans with ⟨k',h1,h2,hn1,hn2,rfl⟩|⟨hn,_⟩
  ·have e:k'=k:=by
    rcases Nat.lt_trichotomy k' k with h|h|h
    ·exact absurd hn1 (hk2 k' h1 h)
    ·exact h
    ·exact absurd hk1 (hn2 k hk h)
   subst e
   exact hpk h2
  ·exact absurd hk1 (hn k hk)
 subst hu
 clear hans HF hk1 hk2 hpk
 go_wp2_with fail
 go_at_call 45
 refine (HC0.out _).mono ?_
 rintro e w' ⟨rfl,rfl⟩
 go_wp2_with fail
 go_at_call 46
 refine (HC1.out _).mono ?_
 rintro e w' ⟨rfl,rfl⟩
 have hmx:opn[k].wr.length+1≤maxLen:=by unfold maxLen;omega
 subst em
 go_wp2_with (first|(at_builtin;refine wpList_append_lies _ rfl (.tmp 32) (.tmp 35) 97 rfl 0 107 i0 (.agg #[.string ByteArray.empty,.int .i64 0]) 2 24 Tryz.underlying97 hi0 hz0 hz1 hz2 rfl (by decide) _ _ _ rfl (hown.alloc _) _ 1 1 [.string s,.int .i64 (-1)] rfl rfl ?c1 ?c2 (by decide) ?c3 ?c4 ?c5 _ rfl ?_))
 case c1=>exact fun j u hj=>bj hj
 case c2=>
  intro u hu
  simp at hu
  rcases hu with h|h <;> subst h <;> rfl
 case c3=>exact hmx
 case c4=>exact hwl
 case c5=>exact Nat.zero_le _
 intro g3 c3 w3 hv3 hg3 hn3 hl3
 have hb3:w3.heap[g1]?=some (.cells #[.int .i64 opn[k].num,.int .i64 opn[k].snap,.slice a1 opn[k].wr.length c1,fv] 100 (0,0)):=by
  exact (hg3.block g1 (Nat.lt_of_lt_of_le hg1l (World.grownBy_alloc w' _ none).size) (fun e=>hne e.symm)).trans (((World.grownBy_alloc w' _ none).block g1 hg1l (by simp)).trans hb)
 have d3:w3.cell? ⟨g1,2,none⟩=some (.slice a1 opn[k].wr.length c1):=by simp[World.cell?,hb3]
 have z3:w3.frozen? ⟨g1,2,none⟩=false:=by simp[World.frozen?,hb3]
 go_wp2_with fail
 go_ret
 refine⟨rfl,g3,c3,w3,CD hn3 (by omega),hv3,?_,rfl,?_⟩
 ·exact s7 hg3
 ·exact ((s7 hg3).mono (fun g hg=>.inl (by simp at hg ⊢;exact .inr hg))).set (.inl (by simp)) _
theorem AW (y:Nat)(opn:List bu)(ps:List Value)(fs:List Nat)(n:Int)(s:ByteArray)(a:Option Addr)(m cp:Nat)(w:World)
  (hc:w.cell? ⟨y,4,none⟩=some (.slice a m cp)) (hrow:w.ownsRow 0 96 1 (.slice a m cp) opn.length ps) (hses:aB eC ps opn w fs) (hlen:opn.length≤8)
  (hno:∀ j (h:j<opn.length),opn[j].num≠n) :
  Calls Tryz.prog 22 #[.pointer (some ⟨y,0,none⟩),.int .i64 n,.string s] w fun e w'=>e=.returned (.int .i64 6)∧w'=w:=by
 have HF:=af (dT y opn ps fs n a m cp w hc hrow hses (by omega))
 clear hses hrow
 go_enter Tryz.func22,Tryz.ntmps22
 go_wp2_with fail
 go_at_call 44
 refine HF.out.mono ?_
 rintro e w' ⟨⟨u,rfl,hans⟩,rfl⟩
 have hu:u=.pointer none:=by
  rcases hans with ⟨k',h1,h2,hn1,hn2,rfl⟩|⟨hn,h⟩
  ·exact absurd hn1 (hno k' h1)
  ·exact h
 subst hu
 clear hans HF hno
 go_wp2_with fail
 go_ret
 exact⟨rfl,rfl⟩
theorem CC (y:Nat)(opn:List bu)(ps:List Value)(fs:List Nat)(n:Int)(s:ByteArray)(a:Option Addr)(m cp k:Nat)(w:World)
  (hc:w.cell? ⟨y,4,none⟩=some (.slice a m cp)) (hrow:w.ownsRow 0 96 1 (.slice a m cp) opn.length ps) (hses:aB eC ps opn w fs) (hlen:opn.length≤8)
  (hk:k<opn.length) (hk1:opn[k].num=n) (_hs63:s.size<9223372036854775808) (hf:eR s=false) :
  Calls Tryz.prog 22 #[.pointer (some ⟨y,0,none⟩),.int .i64 n,.string s] w fun e w'=>e=.returned (.int .i64 8)∧w'=w:=by
 have HF:=af (dT y opn ps fs n a m cp w hc hrow hses (by omega))
 have HS:=af hses
 clear hses hrow
 go_enter Tryz.func22,Tryz.ntmps22
 go_wp2_with fail
 go_at_call 44
 refine HF.out.mono ?_
 rintro e w' ⟨⟨u,rfl,hans⟩,rfl⟩
 obtain⟨g1,rfl⟩:∃ g1,u=.pointer (some ⟨g1,0,none⟩):=by
  rcases hans with ⟨k',h1,h2,hn1,hn2,rfl⟩|⟨hn,_⟩
  ·obtain⟨_,hse,_⟩:=aB.get HS.out k' h2 h1
   obtain⟨g1,_,_,_,_,_,_,hp,_⟩:=hse.open
   exact⟨g1,hp⟩
  ·exact absurd hk1 (hn k hk)
 clear hans HF hk1 HS
 by_cases hs3:s.size=3
 ·have s0:0<s.size:=by omega
  have s1:1<s.size:=by omega
  have s2:2<s.size:=by omega
  have bb0:=bX s 0
  have bb1:=bX s 1
  have bb2:=bX s 2
  rw[bh s0] at bb0
  rw[bh s1] at bb1
  rw[bh s2] at bb2
  have HC0:=af (fun W=>gS ((s[0]'s0).toNat:Int) W bb0.1 bb0.2)
  have HC1:=af (fun W=>eY ((s[1]'s1).toNat:Int) W bb1.1 bb1.2)
  have HC2:=af (fun W=>eY ((s[2]'s2).toNat:Int) W bb2.1 bb2.2)
  simp only[eR,hs3,bh s0,bh s1,bh s2] at hf
  obtain⟨b0,hb0⟩:∃ b0,b0=aR ((s[0]'s0).toNat:Int):=⟨_,rfl⟩
  obtain⟨b1,hb1⟩:∃ b1,b1=bN ((s[1]'s1).toNat:Int):=⟨_,rfl⟩
  obtain⟨b2,hb2⟩:∃ b2,b2=bN ((s[2]'s2).toNat:Int):=⟨_,rfl⟩
  rw[←hb0] at HC0 hf
  rw[←hb1] at HC1 hf
  rw[←hb2] at HC2 hf
  clear hb0 hb1 hb2
  go_wp2_with fail
  go_at_call 45
  refine (HC0.out _).mono ?_
  rintro e w' ⟨rfl,rfl⟩
  cases b0
  ·go_wp2_with fail
   go_ret
   exact⟨rfl,rfl⟩
  go_wp2_with fail
  go_at_call 46
  refine (HC1.out _).mono ?_
  rintro e w' ⟨rfl,rfl⟩
  cases b1
  ·go_wp2_with fail
   go_ret
   exact⟨rfl,rfl⟩
  go_wp2_with fail
  go_at_call 46
  refine (HC2.out _).mono ?_
  rintro e w' ⟨rfl,rfl⟩
  cases b2
  ·go_wp2_with fail
   go_ret
   exact⟨rfl,rfl⟩
  ·simp at hf
 ·go_wp2_with fail
  go_ret
  exact⟨rfl,rfl⟩
theorem wh (y:Nat)(opn:List bu)(ps:List Value)(fs:List Nat)(n:Int)(s:ByteArray)(a:Option Addr)(m cp:Nat)(w:World)
  (hc:w.cell? ⟨y,4,none⟩=some (.slice a m cp)) (hrow:w.ownsRow 0 96 1 (.slice a m cp) opn.length ps) (hses:aB eC ps opn w fs) (hlen:opn.length≤8)
  (hno:∀ j (h:j<opn.length),opn[j].num≠n) :
  Calls Tryz.prog 24 #[.pointer (some ⟨y,0,none⟩),.int .i64 n,.string s] w fun e w'=>e=.returned (.int .i64 6)∧w'=w:=by
 have HF:=af (dT y opn ps fs n a m cp w hc hrow hses (by omega))
 clear hses hrow
 go_enter Tryz.func24,Tryz.ntmps24
 go_wp2_with fail
 go_at_call 44
 refine HF.out.mono ?_
 rintro e w' ⟨⟨u,rfl,hans⟩,rfl⟩
 have hu:u=.pointer none:=by
  rcases hans with ⟨k',h1,h2,hn1,hn2,rfl⟩|⟨hn,h⟩
  ·exact absurd hn1 (hno k' h1)
  ·exact h
 subst hu
 clear hans HF hno
 go_wp2_with fail
 go_ret
 exact⟨rfl,rfl⟩
theorem xN (y:Nat)(opn:List bu)(ps:List Value)(fs:List Nat)(n:Int)(s:ByteArray)(a:Option Addr)(m cp k:Nat)(w:World)
  (hc:w.cell? ⟨y,4,none⟩=some (.slice a m cp)) (hrow:w.ownsRow 0 96 1 (.slice a m cp) opn.length ps) (hses:aB eC ps opn w fs) (hlen:opn.length≤8)
  (hk:k<opn.length) (hk1:opn[k].num=n) (_hs63:s.size<9223372036854775808) (hf:eE s=false) :
  Calls Tryz.prog 24 #[.pointer (some ⟨y,0,none⟩),.int .i64 n,.string s] w fun e w'=>e=.returned (.int .i64 8)∧w'=w:=by
 have HF:=af (dT y opn ps fs n a m cp w hc hrow hses (by omega))
 have HS:=af hses
 clear hses hrow
 go_enter Tryz.func24,Tryz.ntmps24
 go_wp2_with fail
 go_at_call 44
 refine HF.out.mono ?_
 rintro e w' ⟨⟨u,rfl,hans⟩,rfl⟩
 obtain⟨g1,rfl⟩:∃ g1,u=.pointer (some ⟨g1,0,none⟩):=by
  rcases hans with ⟨k',h1,h2,hn1,hn2,rfl⟩|⟨hn,_⟩
  ·obtain⟨_,hse,_⟩:=aB.get HS.out k' h2 h1
   obtain⟨g1,_,_,_,_,_,_,hp,_⟩:=hse.open
   exact⟨g1,hp⟩
  ·exact absurd hk1 (hn k hk)
 clear hans HF hk1 HS
 by_cases hs3:s.size=2
 ·have s0:0<s.size:=by omega
  have s1:1<s.size:=by omega
  have bb0:=bX s 0
  have bb1:=bX s 1
  rw[bh s0] at bb0
  rw[bh s1] at bb1
  have HC0:=af (fun W=>gS ((s[0]'s0).toNat:Int) W bb0.1 bb0.2)
  have HC1:=af (fun W=>eY ((s[1]'s1).toNat:Int) W bb1.1 bb1.2)
  simp only[eE,hs3,bh s0,bh s1] at hf
  obtain⟨b0,hb0⟩:∃ b0,b0=aR ((s[0]'s0).toNat:Int):=⟨_,rfl⟩
  obtain⟨b1,hb1⟩:∃ b1,b1=bN ((s[1]'s1).toNat:Int):=⟨_,rfl⟩
  rw[←hb0] at HC0 hf
  rw[←hb1] at HC1 hf
  clear hb0 hb1
  go_wp2_with fail
  go_at_call 45
  refine (HC0.out _).mono ?_
  rintro e w' ⟨rfl,rfl⟩
  cases b0
  ·go_wp2_with fail
   go_ret
   exact⟨rfl,rfl⟩
  go_wp2_with fail
  go_at_call 46
  refine (HC1.out _).mono ?_
  rintro e w' ⟨rfl,rfl⟩
  cases b1
  ·go_wp2_with fail
   go_ret
   exact⟨rfl,rfl⟩
  ·simp at hf
 ·go_wp2_with fail
  go_ret
  exact⟨rfl,rfl⟩
def bu.add (S:bu)(p:Wr):bu:={ S with wr:=S.wr++[p] }
def jd (E:bn)(k:Nat)(p:Wr):bn:={ E with opn:=E.opn.modify k (·.add p) }
theorem nc {w:World}{g:Nat}{x0 x1 x2 x3 u:Value}{t:TypeId}(h:w.heap[g]?=some (.cells #[x0,x1,x2,x3] t (0,0))):(w.setCell ⟨g,2,none⟩ u).heap[g]?=some (.cells #[x0,x1,u,x3] t (0,0)):=by
 obtain⟨hl,e⟩:=Array.getElem?_eq_some_iff.mp h
 simp[World.setCell,hl,Array.getElem_modify,e]
theorem A8 {L fa A u fb:List Nat}{g1:Nat}(h:(L++(fa++([g1]++(A++u)++fb))).Nodup):∀ x,(x∈L∨x∈fa∨x∈u∨x∈fb)→x∉g1::A:=by
 simp only[List.nodup_append,List.mem_append,List.mem_singleton,List.nodup_cons] at h
 intro x hx hx2
 simp only[List.mem_cons] at hx2
 grind
theorem bJ.grow {Q:Value→eZ}(hQ:∀ v,bU (Q v))(hQw:∀ v,bV (Q v)){y:Nat}{E:bn}{w:World}{f:List Nat}(hE:bJ Q y E w f)(hn:f.Nodup)(k:Nat)(hk:k<E.opn.length):
  ∃ (a:Option Addr) (m cp:Nat) (ps:List Value) (fs:List Nat) (g1:Nat) (a1:Option Addr) (m1 c1:Nat) (fv:Value),
    w.cell? ⟨y,4,none⟩=some (.slice a m cp)∧w.ownsRow 0 96 1 (.slice a m cp) E.opn.length ps∧aB eC ps E.opn w fs∧
    (∀ h:k<ps.length,ps[k]=.pointer (some ⟨g1,0,none⟩))∧w.heap[g1]?=some (.cells #[.int .i64 E.opn[k].num,.int .i64 E.opn[k].snap,.slice a1 m1 c1,fv] 100 (0,0))∧
    w.ownsRow 0 107 2 (.slice a1 m1 c1) E.opn[k].wr.length (aP E.opn[k].wr)∧(∀ x∈g1::a1.toList.map (·.block),x∈f)∧
    ∀ (p:Wr) (g3 c':Nat) (w3 w':World),(a1.map (·.block)=some g3∨w.heap.size≤g3)→w3.ownsRow 0 107 2 (.slice (some ⟨g3,0,none⟩) (E.opn[k].wr.length+1) c') (E.opn[k].wr.length+1) (aP E.opn[k].wr++[.string p.1,.int .i64 p.2])→
      Fr (a1.toList.map (·.block)) w w3→w'.heap=(w3.setCell ⟨g1,2,none⟩ (.slice (some ⟨g3,0,none⟩) (E.opn[k].wr.length+1) c')).heap→Fr (g1::a1.toList.map (·.block)) w w'→
      ∃ f',bJ Q y (jd E k p) w' f'∧f'.Nodup∧∀ x∈f',x∈f∨w.heap.size≤x:=by
 obtain⟨rv,cv,kv,ov,cs,ps,hst⟩:=hE
 have hwi:∀ x∈f,x<w.heap.size:=fun x hx=>bZ.within (e8.within _ _ _) (bZ.within (hQw rv) (bZ.within (bp.within _ _ _ _ _) (bZ.within (aB.within (fun _ _=>bp.within _ _ _ _ _) _ _) (bZ.within (bp.within _ _ _ _ _) (bZ.within (bp.within _ _ _ _ _) (aB.within eC.within _ _)))))) hst x hx
 obtain⟨f1,f2,⟨hb,rfl⟩,⟨f3,f4,hq,⟨f5,f6,hcr,⟨f7,f8,hcom,⟨f9,f10,hkr,⟨f11,f12,hor,hses,rfl⟩,rfl⟩,rfl⟩,rfl⟩,rfl⟩,rfl⟩:=hst
 obtain⟨ao,mo,co,rfl⟩:=an hor.1
 have hpl:=aB.len hses
 have hk2:k<ps.length:=by omega
 obtain⟨fa,g,fb,hse,e12,hput⟩:=aB.focus eC.framed hses k hk2 hk
 subst e12
 obtain⟨g1,wv,fv,hp,u1,u2,⟨hb1,rfl⟩,⟨u3,u4,⟨h1,rfl⟩,h2,rfl⟩,rfl⟩:=hse
 obtain⟨a1,m1,c1,rfl⟩:=an h1
 have hob:(Value.slice a1 m1 c1).ownBlock.toList=a1.toList.map (·.block):=by cases a1 <;> rfl
 rw[hob] at hn hwi
 refine⟨ao,mo,co,ps,_,g1,a1,m1,c1,fv,by simp[World.cell?,hb],hor.1,hses,fun _=>hp,hb1,h1,?_,?_⟩
 ·intro x hx
  rw[hob]
  simp at hx ⊢
  rcases hx with h|h
  ·simp[h]
  ·simp[h]
 ·intro p g3 c' w3 w' hg3 hv3 hf3 hw' hfr
  have hn2:((([y]++(f3++(f5++(f7++(f9++f11))))))++(fa++([g1]++(a1.toList.map (·.block)++u4)++fb))).Nodup:=by
   simp only[List.append_assoc] at hn ⊢
   exact hn
  have hdis:=A8 hn2
  have hA1:g1∉a1.toList.map (·.block):=by
   intro h
   simp only[List.nodup_append,List.mem_append,List.mem_singleton] at hn2
   grind
  have hb3:w3.heap[g1]?=some (.cells #[.int .i64 E.opn[k].num,.int .i64 E.opn[k].snap,.slice a1 m1 c1,fv] 100 (0,0)):=(hf3.block g1 (lt_of_block hb1) hA1).trans hb1
  have hb4:w'.heap[g1]?=some (.cells #[.int .i64 E.opn[k].num,.int .i64 E.opn[k].snap,.slice (some ⟨g3,0,none⟩) (E.opn[k].wr.length+1) c',fv] 100 (0,0)):=by rw[hw'];exact nc hb3
  have hv4:w'.ownsRow 0 107 2 (.slice (some ⟨g3,0,none⟩) (E.opn[k].wr.length+1) c') (E.opn[k].wr.length+1) (aP E.opn[k].wr++[.string p.1,.int .i64 p.2]):=dx (ownsRow_setCell_other hv3 (aT hv3 hb3 (by decide)) _) hw'
  have hS:eC (.pointer (some ⟨g1,0,none⟩)) (E.opn[k].add p) w' ([g1]++([g3]++u4)):=by
   refine⟨g1,_,fv,rfl,[g1],[g3]++u4,⟨hb4,rfl⟩,⟨[g3],u4,⟨?_,rfl⟩,bp.framed _ _ _ _ _ h2 hfr (fun x hx=>hdis x (.inr (.inr (.inl hx)))),rfl⟩,rfl⟩
   simp only[bu.add,j6,List.length_append,List.length_cons,List.length_nil]
   exact hv4
  have hE2:=hput _ _ w' _ _ hS hfr (fun x hx=>hdis x (.inr (.inl hx))) (fun x hx=>hdis x (.inr (.inr (.inr hx))))
  have hps:ps.set k (.pointer (some ⟨g1,0,none⟩))=ps:=by rw[←hp];simp
  have hop:E.opn.set k (E.opn[k].add p)=(jd E k p).opn:=by
   refine List.ext_getElem (by simp[jd]) (fun i _ _=>?_)
   simp only[jd,List.getElem_modify,List.getElem_set]
   split
   ·rename_i e;subst e;rfl
   ·rfl
  rw[hps,hop] at hE2
  have hlen:(jd E k p).opn.length=E.opn.length:=by simp[jd]
  refine⟨([y]++(f3++(f5++(f7++(f9++(f11++(fa++(([g1]++([g3]++u4))++fb)))))))),⟨rv,cv,kv,_,cs,ps,[y],_,e8.framed _ _ _ ⟨hb,rfl⟩ hfr (fun x hx=>hdis x (.inl (by simp at hx ⊢;simp[hx]))),⟨f3,_,hQ rv hq hfr (fun x hx=>hdis x (.inl (by simp[hx]))),⟨f5,_,bp.framed _ _ _ _ _ hcr hfr (fun x hx=>hdis x (.inl (by simp[hx]))),⟨f7,_,aB.framed ik.framed _ _ hcom hfr (fun x hx=>hdis x (.inl (by simp[hx]))),⟨f9,_,bp.framed _ _ _ _ _ hkr hfr (fun x hx=>hdis x (.inl (by simp[hx]))),⟨f11,_,?_,hE2,rfl⟩,rfl⟩,rfl⟩,rfl⟩,rfl⟩,rfl⟩,?_,?_⟩
  ·rw[hlen]
   exact bp.framed _ _ _ _ _ hor hfr (fun x hx=>hdis x (.inl (by simp[hx])))
  ·have hsz:∀ x∈(([y]++(f3++(f5++(f7++(f9++f11)))))++fa)++(([g1]++(a1.toList.map (·.block)++u4))++fb),x<w.heap.size:=by
    intro x hx
    apply hwi x
    simp only[List.append_assoc] at hx ⊢
    exact hx
   have hn3:((([y]++(f3++(f5++(f7++(f9++f11)))))++fa)++(([g1]++(a1.toList.map (·.block)++u4))++fb)).Nodup:=by
    simp only[List.append_assoc] at hn ⊢
    exact hn
   have hg':([g1]++([g3]++u4)).Nodup:=by
    have h1l:=lt_of_block hb1
    have hu:∀ x∈u4,x<w.heap.size:=fun x hx=>hwi x (by simp[hx])
    have hun:u4.Nodup:=by
     simp only[List.nodup_append] at hn2
     grind
    have e1:g1≠g3:=by
     rintro rfl
     rcases hg3 with h|h
     ·exact hA1 (by cases a1 <;> simp_all)
     ·omega
    have e2:g3∉u4:=by
     intro hx
     rcases hg3 with h|h
     ·exact hdis g3 (.inr (.inr (.inl hx))) (by cases a1 <;> simp_all)
     ·have:=hu g3 hx;omega
    have e3:g1∉u4:=fun hx=>hdis g1 (.inr (.inr (.inl hx))) (by simp)
    simp[e1,e2,e3,hun]
   have:=ed hn3 hsz hg' (fun x hx=>by
    simp only[List.mem_append,List.mem_singleton] at hx ⊢
    rcases hx with h|h|h
    ·exact .inl (.inl h)
    ·subst h
     rcases hg3 with h|h
     ·exact .inl (.inr (.inl (by cases a1 <;> simp_all)))
     ·exact .inr h
    ·exact .inl (.inr (.inr h)))
   simp only[List.append_assoc] at this ⊢
   exact this
  ·intro x hx
   rw[hob]
   simp only[List.mem_append,List.mem_singleton] at hx ⊢
   have hg4:x=g3→x∈a1.toList.map (·.block)∨w.heap.size≤x:=by
    rintro rfl
    rcases hg3 with h|h
    ·exact .inl (by cases a1 <;> simp_all)
    ·exact .inr h
   grind
def eH (l:List bu)(n:Int):Option Nat:=l.findIdx? (fun S=>S.num==n)
theorem iM {l:List bu}{n:Int}{k:Nat}(h:eH l n=some k):∃ hk:k<l.length,l[k].num=n∧∀ j (h:j<l.length),j<k→l[j].num≠n:=by
 unfold eH at h
 rw[List.findIdx?_eq_some_iff_getElem] at h
 obtain⟨hk,h1,h2⟩:=h
 exact⟨hk,by simpa using h1,fun j hj hjk=>by simpa using h2 j hjk⟩
theorem lC {l:List bu}{n:Int}(h:eH l n=none):∀ j (h:j<l.length),l[j].num≠n:=by
 unfold eH at h
 rw[List.findIdx?_eq_none_iff] at h
 intro j hj
 simpa using h _ (List.getElem_mem hj)
def gu (Q:Value→eZ)(y:Nat)(E':bn)(f:List Nat)(w w':World):Prop:=∃ f',bJ Q y E' w' f'∧f'.Nodup∧(∀ x∈f',x∈f∨w.heap.size≤x)∧Fr f w w'
theorem gu.same {Q:Value→eZ}{y:Nat}{E:bn}{f:List Nat}{w:World}(h:bJ Q y E w f)(hn:f.Nodup):gu Q y E f w w:=⟨f,h,hn,fun _ hx=>.inl hx,Fr.refl _ _⟩
def fB (E:bn)(n:Int)(s:ByteArray):Int×bn:=match eH E.opn n with
 |none=>(6,E)
 |some k=>if eR s then (0,jd E k (s.extract 0 2,bt s 2 - 48)) else (8,E)
def cU (E:bn)(n:Int)(s:ByteArray):Int×bn:=match eH E.opn n with
 |none=>(6,E)
 |some k=>if eE s then (0,jd E k (s,-1)) else (8,E)
theorem DY {Q:Value→eZ}(hQ:∀ v,bU (Q v))(hQw:∀ v,bV (Q v)){y:Nat}{E:bn}{w:World}{f:List Nat}(n:Int)(s:ByteArray)(hE:bJ Q y E w f)(hn:f.Nodup)(hlen:E.opn.length≤8)(hs63:s.size<9223372036854775808)(hwl:∀ S∈E.opn,(S.wr.length+1)*24≤140737488355328):
  Calls Tryz.prog 22 #[.pointer (some ⟨y,0,none⟩),.int .i64 n,.string s] w fun e w'=>e=.returned (.int .i64 (fB E n s).1)∧gu Q y (fB E n s).2 f w w':=by
 unfold fB
 cases hi:eH E.opn n with
 |none=>
  have hE0:=hE
  obtain⟨rv,cv,kv,ov,cs,ps,f1,f2,⟨hb,rfl⟩,⟨f3,f4,_,⟨f5,f6,_,⟨f7,f8,_,⟨f9,f10,_,⟨f11,f12,⟨hor,_⟩,hses,_⟩,_⟩,_⟩,_⟩,_⟩,_⟩:=hE0
  obtain⟨ao,mo,co,rfl⟩:=an hor
  refine (AW y E.opn ps f12 n s ao mo co w (by simp[World.cell?,hb]) hor hses hlen (lC hi)).mono ?_
  rintro e w' ⟨rfl,rfl⟩
  exact⟨rfl,gu.same hE hn⟩
 |some k=>
  obtain⟨hk,hk1,hk2⟩:=iM hi
  obtain⟨a,m,cp,ps,fs,g1,a1,m1,c1,fv,hc,hrow,hses,hpk,hb,hown,hin,hgo⟩:=bJ.grow hQ hQw hE hn k hk
  cases hf:eR s
  ·refine (CC y E.opn ps fs n s a m cp k w hc hrow hses hlen hk hk1 hs63 hf).mono ?_
   rintro e w' ⟨rfl,rfl⟩
   exact⟨rfl,gu.same hE hn⟩
  ·refine (By y E.opn ps fs n s a m cp k w hc hrow hses hlen hk hk1 hk2 hf (hwl _ (List.getElem_mem hk)) g1 a1 m1 c1 fv hpk hb hown).mono ?_
   rintro e w' ⟨rfl,g3,c',w3,h1,h2,h3,h4,h5⟩
   obtain⟨f',h6,h7,h8⟩:=hgo (s.extract 0 2,bt s 2 - 48) g3 c' w3 w' h1 h2 h3 h4 h5
   exact⟨rfl,f',h6,h7,h8,h5.mono (fun x hx=>.inl (hin x hx))⟩
theorem xk {Q:Value→eZ}(hQ:∀ v,bU (Q v))(hQw:∀ v,bV (Q v)){y:Nat}{E:bn}{w:World}{f:List Nat}(n:Int)(s:ByteArray)(hE:bJ Q y E w f)(hn:f.Nodup)(hlen:E.opn.length≤8)(hs63:s.size<9223372036854775808)(hwl:∀ S∈E.opn,(S.wr.length+1)*24≤140737488355328):
  Calls Tryz.prog 24 #[.pointer (some ⟨y,0,none⟩),.int .i64 n,.string s] w fun e w'=>e=.returned (.int .i64 (cU E n s).1)∧gu Q y (cU E n s).2 f w w':=by
 unfold cU
 cases hi:eH E.opn n with
 |none=>
  have hE0:=hE
  obtain⟨rv,cv,kv,ov,cs,ps,f1,f2,⟨hb,rfl⟩,⟨f3,f4,_,⟨f5,f6,_,⟨f7,f8,_,⟨f9,f10,_,⟨f11,f12,⟨hor,_⟩,hses,_⟩,_⟩,_⟩,_⟩,_⟩,_⟩:=hE0
  obtain⟨ao,mo,co,rfl⟩:=an hor
  refine (wh y E.opn ps f12 n s ao mo co w (by simp[World.cell?,hb]) hor hses hlen (lC hi)).mono ?_
  rintro e w' ⟨rfl,rfl⟩
  exact⟨rfl,gu.same hE hn⟩
 |some k=>
  obtain⟨hk,hk1,hk2⟩:=iM hi
  obtain⟨a,m,cp,ps,fs,g1,a1,m1,c1,fv,hc,hrow,hses,hpk,hb,hown,hin,hgo⟩:=bJ.grow hQ hQw hE hn k hk
  cases hf:eE s
  ·refine (xN y E.opn ps fs n s a m cp k w hc hrow hses hlen hk hk1 hs63 hf).mono ?_
   rintro e w' ⟨rfl,rfl⟩
   exact⟨rfl,gu.same hE hn⟩
  ·refine (ud y E.opn ps fs n s a m cp k w hc hrow hses hlen hk hk1 hk2 hf (hwl _ (List.getElem_mem hk)) g1 a1 m1 c1 fv hpk hb hown).mono ?_
   rintro e w' ⟨rfl,g3,c',w3,h1,h2,h3,h4,h5⟩
   obtain⟨f',h6,h7,h8⟩:=hgo (s,-1) g3 c' w3 w' h1 h2 h3 h4 h5
   exact⟨rfl,f',h6,h7,h8,h5.mono (fun x hx=>.inl (hin x hx))⟩
end Go.Proofs.YthlhbjnkohinmaaGreat
