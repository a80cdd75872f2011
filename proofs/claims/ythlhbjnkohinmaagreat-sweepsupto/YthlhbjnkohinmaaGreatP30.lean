import Derived.Test.YthlhbjnkohinmaaGreatP29
import Derived.Test.YthlhbjnkohinmaaGreatP07
namespace Go.Proofs.YthlhbjnkohinmaaGreat
set_option maxRecDepth 100000
set_option maxHeartbeats 8000000
open Go.RowKit
theorem Fe (a0 a1 a2 a3:Int)(u v:ByteArray)(w:World)(hu:3≤u.size)(hv:3≤v.size)(hul:u.size≤400)(hvl:v.size≤400)(hne:bt u 0≠bt v 0):
  Calls Tryz.prog 137 #[.agg #[.int .i64 a0,.int .i64 a1,.int .i64 a2,.int .i64 a3],.string u,.string v] w fun r w'=>r=.returned (.tuple #[.agg #[.int .i64 a0,.int .i64 a1,.int .i64 a2,.int .i64 a3],.bool false])∧w.grownBy w' none:=by
 have s0:0<u.size:=by omega
 have s3:0<v.size:=by omega
 obtain⟨c,hc⟩:∃ c,c=bt u 0:=⟨_,rfl⟩
 obtain⟨d,hd⟩:∃ d,d=bt v 0:=⟨_,rfl⟩
 have u0:((u[0]'s0).toNat:Int)=c:=by rw[hc,bh s0]
 have v0:((v[0]'s3).toNat:Int)=d:=by rw[hd,bh s3]
 have qq:(c != d)=true:=by rw[hc,hd];simpa using hne
 clear hne hc hd
 go_enter Tryz.func137,Tryz.ntmps137
 go_wp2_with fail
 go_quiet ((fail))
 generalize hW0:World.drewN _ _=W0
 have HW0:Hid (w.grownBy W0 none∧W0.heap[w.heap.size]?=some (.cells #[.int .i64 a0,.int .i64 a1,.int .i64 a2,.int .i64 a3] 134 (0,0))∧W0.heap[w.heap.size+1]?=some (.cells #[.int .i64 0,.int .i64 0,.int .i64 0,.int .i64 0] 134 (0,0))):=af (by
  rw[←hW0]
  exact⟨al (ab (ab (ag _ _) _) _) _,(Below.heap_alloc _ _ _ (by simp)).trans (heap_alloc_new w _),gG (by simp)⟩)
 clear hW0
 have k0:W0.cell? ⟨w.heap.size,0,none⟩=some (.int .i64 a0):=by rw[cell_of_row _ _ _ _ _ _ HW0.out.2.1];rfl
 have k1:W0.cell? ⟨w.heap.size,1,none⟩=some (.int .i64 a1):=by rw[cell_of_row _ _ _ _ _ _ HW0.out.2.1];rfl
 have k2:W0.cell? ⟨w.heap.size,2,none⟩=some (.int .i64 a2):=by rw[cell_of_row _ _ _ _ _ _ HW0.out.2.1];rfl
 have k3:W0.cell? ⟨w.heap.size,3,none⟩=some (.int .i64 a3):=by rw[cell_of_row _ _ _ _ _ _ HW0.out.2.1];rfl
 have r0:W0.cell? ⟨w.heap.size+1,0,none⟩=some (.int .i64 0):=by rw[cell_of_row _ _ _ _ _ _ HW0.out.2.2];rfl
 have r1:W0.cell? ⟨w.heap.size+1,1,none⟩=some (.int .i64 0):=by rw[cell_of_row _ _ _ _ _ _ HW0.out.2.2];rfl
 have r2:W0.cell? ⟨w.heap.size+1,2,none⟩=some (.int .i64 0):=by rw[cell_of_row _ _ _ _ _ _ HW0.out.2.2];rfl
 have r3:W0.cell? ⟨w.heap.size+1,3,none⟩=some (.int .i64 0):=by rw[cell_of_row _ _ _ _ _ _ HW0.out.2.2];rfl
 have z0:=ai HW0.out.2.2 0
 have z1:=ai HW0.out.2.2 1
 have z2:=ai HW0.out.2.2 2
 have z3:=ai HW0.out.2.2 3
 go_wp2_with fail
 refine bodyPost_ret (aO Tryz.results137 rfl (ah (ah (ah (ah HW0.out.2.2 _ _) _ _) _ _) _ _) Tryz.underlying134 rfl (by kernel_rfl) rfl) rfl ⟨rfl,?_⟩
 exact aj (aj (aj (aj HW0.out.1 (.inr (by simp)) _) (.inr (by simp)) _) (.inr (by simp)) _) (.inr (by simp)) _
theorem rE (e:fq)(c t1 t2:Int)(q:aw)(u:ByteArray)(w:World)(hu:ug u c t1 t2)(hul:u.size≤400)(hq:q.1<60∧0≤q.2.1∧q.2.1≤9)(h1:c7 t1=true)(h2:c7 t2=true)(he:∀ n v,e n=some v→0≤v∧v≤9):
  Calls Tryz.prog 137 #[fG e,.string u,.string (cq q.1 q.2.1)] w fun r w'=>(∃ e',r=.returned (.tuple #[fG e',.bool (gb e c t1 t2 q).isSome])∧∀ e2,gb e c t1 t2 q=some e2→e'=e2)∧w.grownBy w' none:=by
 have hf:=uX hq
 have hfz:(cq q.1 q.2.1).size=3:=rfl
 by_cases hc:c - 97=(q.1:Int) / 10
 ·have b1:0≤t1∧t1≤255:=by rw[←hu.c1];exact bU u 1
  have b2:0≤t2∧t2≤255:=by rw[←hu.c2];exact bU u 2
  have hd1:0≤(q.1:Int) % 10∧(q.1:Int) % 10≤9:=by omega
  obtain⟨e1,he1⟩:∃ e1,e1=(jK e t1 ((q.1:Int) % 10)).getD e:=⟨_,rfl⟩
  have he1ok:∀ n v,e1 n=some v→0≤v∧v≤9:=by
   rw[he1]
   cases hg:jK e t1 ((q.1:Int) % 10) with
   |none=>exact he
   |some e'=>exact xy hg he hd1
  have H1:Hid (∀ W,Calls Tryz.prog 146 #[fG e,.int .u8 t1,.int .i64 ((q.1:Int) % 10)] W fun r w'=>r=.returned (.tuple #[fG e1,.bool (jK e t1 ((q.1:Int) % 10)).isSome])∧W.grownBy w' none):=af (fun W=>by rw[he1];exact sj e t1 _ W b1.1 b1.2 h1 he)
  have H2:Hid (∀ W,Calls Tryz.prog 146 #[fG e1,.int .u8 t2,.int .i64 q.2.1] W fun r w'=>r=.returned (.tuple #[fG ((jK e1 t2 q.2.1).getD e1),.bool (jK e1 t2 q.2.1).isSome])∧W.grownBy w' none):=af (fun W=>sj e1 t2 _ W b2.1 b2.2 h2 he1ok)
  have hgo:gb e c t1 t2 q=(jK e t1 ((q.1:Int) % 10)).bind fun e1=>jK e1 t2 q.2.1:=by unfold gb;rw[if_pos hc]
  refine (AV _ _ _ _ _ _ _ _ _ _ _ _ _ _ u (cq q.1 q.2.1) c t1 t2 _ _ w hu.size hf.size hu.c0 hu.c1 hu.c2 (by rw[hf.c0];omega) hf.c1 hf.c2 hd1 hq.2 hul (by omega) H1 H2).mono ?_
  rintro r w' ⟨rfl,hg⟩
  refine⟨⟨(jK e1 t2 q.2.1).getD e1,?_,?_⟩,hg⟩
  ·rw[hgo]
   cases hg1:jK e t1 ((q.1:Int) % 10) with
   |none=>rfl
   |some e'=>
    rw[hg1] at he1
    have:e1=e':=he1
    rw[this]
    rfl
  ·intro e2 h2e
   rw[hgo] at h2e
   cases hg1:jK e t1 ((q.1:Int) % 10) with
   |none=>rw[hg1] at h2e;cases h2e
   |some e'=>
    rw[hg1] at he1 h2e
    have:e1=e':=he1
    rw[this]
    have h3:jK e' t2 q.2.1=some e2:=h2e
    rw[h3]
    rfl
 ·have hgo:gb e c t1 t2 q=none:=by unfold gb;rw[if_neg hc]
  refine (Fe _ _ _ _ u (cq q.1 q.2.1) w hu.size hf.size hul (by omega) (by rw[hu.c0,hf.c0];omega)).mono ?_
  rintro r w' ⟨rfl,hg⟩
  refine⟨⟨e,by rw[hgo];rfl,fun e2 h=>by rw[hgo] at h;cases h⟩,hg⟩
theorem Ah {g:Int}(h:gJ g=true):g=60∨g=61∨g=35:=by simpa [gJ,or_assoc] using h
theorem AT (a0 a1 a2 a3 x y g t1 t2:Int)(u:ByteArray)(fa:Option Addr)(fm fc:Nat)(w:World)(hu:3≤u.size)(hul:u.size≤400)(hg:g=60∨g=61∨g=35)(h0:bt u 0=t1)(h1:bt u 1=g)(h2:bt u 2=t2)(hn:t1≠33)
  (H1:Hid (∀ W,Calls Tryz.prog 139 #[.agg #[.int .i64 a0,.int .i64 a1,.int .i64 a2,.int .i64 a3],.int .u8 t1] W fun r w'=>r=.returned (.int .i64 x)∧W.grownBy w' none))
  (H2:Hid (∀ W,Calls Tryz.prog 139 #[.agg #[.int .i64 a0,.int .i64 a1,.int .i64 a2,.int .i64 a3],.int .u8 t2] W fun r w'=>r=.returned (.int .i64 y)∧W.grownBy w' none)) :
  Calls Tryz.prog 136 #[.agg #[.int .i64 a0,.int .i64 a1,.int .i64 a2,.int .i64 a3],.string u,.slice fa fm fc] w fun r w'=>r=.returned (.bool (iy g x y))∧w.grownBy w' none:=by
 have s0:0<u.size:=by omega
 have s1:1<u.size:=by omega
 have s2:2<u.size:=by omega
 have u0:((u[0]'s0).toNat:Int)=t1:=by rw[←h0,bh s0]
 have u1:((u[1]'s1).toNat:Int)=g:=by rw[←h1,bh s1]
 have u2:((u[2]'s2).toNat:Int)=t2:=by rw[←h2,bh s2]
 have qn:(t1 != 33)=true:=by simpa using hn
 obtain⟨r,hr⟩:∃ r,r=iy g x y:=⟨_,rfl⟩
 rw[←hr]
 have HR:=af hr
 clear h0 h1 h2 hn hr
 go_enter Tryz.func136,Tryz.ntmps136
 go_wp2_with fail
 generalize hW0:World.alloc _ _=W0
 have HW0:Hid (w.grownBy W0 none∧W0.heap[w.heap.size]?=some (.cells #[.int .i64 a0,.int .i64 a1,.int .i64 a2,.int .i64 a3] 134 (0,0))):=af (by
  rw[←hW0]
  exact⟨ab (ag _ _) _,heap_alloc_new w _⟩)
 clear hW0
 have k0:W0.cell? ⟨w.heap.size,0,none⟩=some (.int .i64 a0):=by rw[cell_of_row _ _ _ _ _ _ HW0.out.2];rfl
 have k1:W0.cell? ⟨w.heap.size,1,none⟩=some (.int .i64 a1):=by rw[cell_of_row _ _ _ _ _ _ HW0.out.2];rfl
 have k2:W0.cell? ⟨w.heap.size,2,none⟩=some (.int .i64 a2):=by rw[cell_of_row _ _ _ _ _ _ HW0.out.2];rfl
 have k3:W0.cell? ⟨w.heap.size,3,none⟩=some (.int .i64 a3):=by rw[cell_of_row _ _ _ _ _ _ HW0.out.2];rfl
 have HG0:=af HW0.out.1
 clear HW0
 generalize w.heap.size=b at k0 k1 k2 k3 ⊢
 go_region_held3 (fun W=>W.cell? ⟨b,0,none⟩=some (.int .i64 a0)∧W.cell? ⟨b,1,none⟩=some (.int .i64 a1)∧W.cell? ⟨b,2,none⟩=some (.int .i64 a2)∧W.cell? ⟨b,3,none⟩=some (.int .i64 a3)) (first|(with_reducible exact⟨m0,m1,m2,m3⟩)|(simp only[World.cell?_drew];with_reducible exact⟨k0,k1,k2,k3⟩)) (first
  |(go_at_call 139
    refine (H1.out _).mono ?_
    rintro e w1 ⟨rfl,hg1⟩
    have hfr1:Fr [] W0 w1:=(ar (Fr.refl [] W0)).trans (aK hg1)
    have m0:=aE hfr1 k0
    have m1:=aE hfr1 k1
    have m2:=aE hfr1 k2
    have m3:=aE hfr1 k3
    have HG1:Hid (w.grownBy w1 none):=af (ae HG0.out (bG hfr1))
    clear hfr1 hg1))
 go_wp2_with fail
 go_region_held3 (fun W=>W.cell? ⟨b,0,none⟩=some (.int .i64 a0)∧W.cell? ⟨b,1,none⟩=some (.int .i64 a1)∧W.cell? ⟨b,2,none⟩=some (.int .i64 a2)∧W.cell? ⟨b,3,none⟩=some (.int .i64 a3)) (first|(with_reducible exact⟨p0,p1,p2,p3⟩)|(simp only[World.cell?_drew];with_reducible exact⟨m0,m1,m2,m3⟩)) (first
  |(go_at_call 139
    refine (H2.out _).mono ?_
    rintro e w2 ⟨rfl,hg2⟩
    have hfr2:Fr [] w1 w2:=(ar (Fr.refl [] w1)).trans (aK hg2)
    have p0:=aE hfr2 m0
    have p1:=aE hfr2 m1
    have p2:=aE hfr2 m2
    have p3:=aE hfr2 m3
    have HG2:Hid (w.grownBy w2 none):=af (ae HG1.out (bG hfr2))
    clear hfr2 hg2))
 rcases hg with rfl|rfl|rfl
 ·by_cases hxy:x<y
  ·have HRR:Hid (r=true):=af (by rw[HR.out];simp[iy,hxy])
   go_wp2_with fail
   go_ret
   exact⟨by rw[HRR.out];rfl,HG2.out⟩
  ·have HRR:Hid (r=false):=af (by rw[HR.out];simp[iy,hxy])
   go_wp2_with fail
   go_ret
   exact⟨by rw[HRR.out];rfl,HG2.out⟩
 ·by_cases hxy:x=y
  ·have HRR:Hid (r=true):=af (by rw[HR.out];simp[iy,hxy])
   have q1:(x==y)=true:=by simpa using hxy
   clear hxy
   go_wp2_with fail
   go_ret
   exact⟨by rw[HRR.out];rfl,HG2.out⟩
  ·have HRR:Hid (r=false):=af (by rw[HR.out];simp[iy,hxy])
   have q1:(x==y)=false:=by simpa using hxy
   clear hxy
   go_wp2_with fail
   go_ret
   exact⟨by rw[HRR.out];rfl,HG2.out⟩
 ·by_cases hxy:x=y
  ·have HRR:Hid (r=false):=af (by rw[HR.out];simp[iy,hxy])
   have q1:(x != y)=false:=by simpa using hxy
   clear hxy
   go_wp2_with fail
   go_ret
   exact⟨by rw[HRR.out];rfl,HG2.out⟩
  ·have HRR:Hid (r=true):=af (by rw[HR.out];simp[iy,hxy])
   have q1:(x != y)=true:=by simpa using hxy
   clear hxy
   go_wp2_with fail
   go_ret
   exact⟨by rw[HRR.out];rfl,HG2.out⟩
theorem BG (e:fq)(u:ByteArray)(fa:Option Addr)(fm fc:Nat)(w:World)(hu:3≤u.size)(hul:u.size≤400)(h0:bd (bt u 0)=true)(h1:gJ (bt u 1)=true)(h2:bd (bt u 2)=true):
  Calls Tryz.prog 136 #[fG e,.string u,.slice fa fm fc] w fun r w'=>r=.returned (.bool (iy (bt u 1) (fF (-1) e (bt u 0)) (fF (-1) e (bt u 2))))∧w.grownBy w' none:=by
 refine AT _ _ _ _ _ _ (bt u 1) (bt u 0) (bt u 2) u fa fm fc w hu hul (Ah h1) rfl rfl rfl ?_ (af (fun W=>oX e _ W (bU u 0).1 (bU u 0).2 h0)) (af (fun W=>oX e _ W (bU u 2).1 (bU u 2).2 h2))
 intro h
 rw[h] at h0
 exact absurd h0 (by decide)
def gC (F:List aw):List Value:=F.map fun q=>.string (cq q.1 q.2.1)
theorem pZ (F:List aw)(k:Nat)(hk:k<F.length):(gC F)[k]?=some (.string (cq F[k].1 F[k].2.1)):=by simp[gC,hk]
theorem BJ {F:List aw}{e:fq}{c t1 t2:Int}(h:∀ j (hj:j<F.length),gb e c t1 t2 F[j]=none):fR F e c t1 t2=true:=by
 unfold fR
 rw[List.all_eq_true]
 intro q hq
 obtain⟨j,hj,rfl⟩:=List.mem_iff_getElem.mp hq
 rw[h j hj];rfl
theorem wP {F:List aw}{e:fq}{c t1 t2:Int}{j:Nat}(hj:j<F.length)(h:(gb e c t1 t2 F[j]).isSome=true):fR F e c t1 t2=false:=by
 unfold fR
 rw[List.all_eq_false]
 refine⟨F[j],List.getElem_mem hj,?_⟩
 cases hg:gb e c t1 t2 F[j] with
 |none=>rw[hg] at h;cases h
 |some e'=>simp
theorem BT (e:fq)(c t1 t2:Int)(F:List aw)(u:ByteArray)(a:Option Addr)(cp B:Nat)(w:World)(hs4:u.size=4)(hu0:bt u 0=33)(hp:ug (u.extract 1 4) c t1 t2)(hF:rk F)(hFl:F.length≤60)(h1:c7 t1=true)(h2:c7 t2=true)(he:∀ n v,e n=some v→0≤v∧v≤9)
  (hrow:w.ownsRow B 9 1 (.slice a F.length cp) F.length (gC F)) :
  Calls Tryz.prog 136 #[fG e,.string u,.slice a F.length cp] w fun r w'=>r=.returned (.bool (fR F e c t1 t2))∧w.grownBy w' none:=by
 have s0:0<u.size:=by omega
 have u0:((u[0]'s0).toNat:Int)=33:=by rw[←hu0,bh s0]
 have hez:(u.extract 1 4).size≤400:=by simp;omega
 have HFT:Hid (∀ (k:Nat) (hk:k<F.length) (W:World),Calls Tryz.prog 137 #[fG e,.string (u.extract 1 4),.string (cq F[k].1 F[k].2.1)] W fun r w'=>(∃ e',r=.returned (.tuple #[fG e',.bool (gb e c t1 t2 F[k]).isSome])∧∀ e2,gb e c t1 t2 F[k]=some e2→e'=e2)∧W.grownBy w' none):=af (fun k hk W=>rE e c t1 t2 F[k] _ W hp hez (hF _ (List.getElem_mem hk)) h1 h2 he)
 obtain⟨r,hr⟩:∃ r,r=fR F e c t1 t2:=⟨_,rfl⟩
 rw[←hr]
 have HR:=af hr
 have HROW:=af hrow
 obtain⟨us,hus⟩:∃ us,us=u.extract 1 4:=⟨_,rfl⟩
 have hus':u.extract 1 4=us:=hus.symm
 rw[hus'] at HFT
 unfold fG at HFT ⊢
 obtain⟨a0,ha0⟩:∃ a0,a0=eI e 0:=⟨_,rfl⟩
 obtain⟨a1,ha1⟩:∃ a1,a1=eI e 1:=⟨_,rfl⟩
 obtain⟨a2,ha2⟩:∃ a2,a2=eI e 2:=⟨_,rfl⟩
 obtain⟨a3,ha3⟩:∃ a3,a3=eI e 3:=⟨_,rfl⟩
 rw[←ha0,←ha1,←ha2,←ha3] at HFT ⊢
 clear hr hrow hp hF h1 h2 he hez hus ha0 ha1 ha2 ha3 hu0
 go_enter Tryz.func136,Tryz.ntmps136
 go_wp2_with fail
 generalize hWA:World.alloc _ _=WA
 have HWA:Hid (w.grownBy WA none∧WA.heap[w.heap.size]?=some (.cells #[.int .i64 a0,.int .i64 a1,.int .i64 a2,.int .i64 a3] 134 (0,0))):=af (by
  rw[←hWA]
  exact⟨ab (ag _ _) _,heap_alloc_new w _⟩)
 clear hWA
 obtain⟨b,hb⟩:∃ b,b=w.heap.size:=⟨_,rfl⟩
 rw[←hb] at HWA ⊢
 clear hb
 go_loopw [9] (fun i wr=>∃ k:Nat,k≤F.length∧i=.int .i64 k∧WA.grownBy wr none∧∀ j (hj:j<F.length),j<k→gb e c t1 t2 F[j]=none) (fun i _=>F.length - (intOf i).toNat)
 case atStart=>exact⟨0,by omega,rfl,ag _ _,fun j _ h=>by omega⟩
 case round=>
  obtain⟨k,hk,rfl,hgr,hno⟩:=hrel
  have HN:=af hno
  have HGR:=af hgr
  clear hno
  by_cases hlt:k<F.length
  ·have hW0b:=(hgr.block _ (lt_of_block HWA.out.2) (by simp)).trans HWA.out.2
   have k0:wr.cell? ⟨b,0,none⟩=some (.int .i64 a0):=by rw[cell_of_row _ _ _ _ _ _ hW0b];rfl
   have k1:wr.cell? ⟨b,1,none⟩=some (.int .i64 a1):=by rw[cell_of_row _ _ _ _ _ _ hW0b];rfl
   have k2:wr.cell? ⟨b,2,none⟩=some (.int .i64 a2):=by rw[cell_of_row _ _ _ _ _ _ hW0b];rfl
   have k3:wr.cell? ⟨b,3,none⟩=some (.int .i64 a3):=by rw[cell_of_row _ _ _ _ _ _ hW0b];rfl
   have how:=aq HROW.out (ae HWA.out.1 hgr) (fun g hg=>by cases hg)
   obtain⟨gf,rfl,_,hgb,hgl,hcell⟩:=aC how (by omega)
   have k4:wr.cell? ⟨gf,k,none⟩=some (.string (cq F[k].1 F[k].2.1)):=hcell _ _ (pZ F k hlt)
   have nb1:=lt_of_block hW0b
   have nb:b≠wr.heap.size:=by omega
   have nf1:gf<wr.heap.size:=by omega
   have nf:gf≠wr.heap.size:=by omega
   have HC:=af (HFT.out k hlt)
   have HGO:Hid ((gb e c t1 t2 F[k]).isSome=false→∀ j (hj:j<F.length),j<k+1→gb e c t1 t2 F[j]=none):=af (fun h j hj hjk=>by
    by_cases ej:j=k
    ·subst ej
     cases hg:gb e c t1 t2 F[j] with
     |none=>rfl
     |some e'=>rw[hg] at h;cases h
    ·exact HN.out j hj (by omega))
   have HNS:Hid ((gb e c t1 t2 F[k]).isSome=true→r=false):=af (fun h=>by rw[HR.out];exact wP hlt h)
   obtain⟨ok,hok⟩:∃ ok,ok=(gb e c t1 t2 F[k]).isSome:=⟨_,rfl⟩
   obtain⟨ft,hft⟩:∃ ft,ft=cq F[k].1 F[k].2.1:=⟨_,rfl⟩
   rw[←hok] at HC HGO HNS
   rw[←hft] at HC k4
   clear hok hft how hcell hgb hgl hgr hW0b
   have HGRO:Hid (∀ w2,Fr [] wr w2→WA.grownBy w2 none):=af (fun w2 h=>ae HGR.out (bG h))
   go_wp2_with fail
   go_cut [10,11] from 57 to 67 (fun p o wx=>o=.bool ok∧WA.grownBy wx none)
   case first=>
    go_region_held3 (fun W=>W.cell? ⟨b,0,none⟩=some (.int .i64 a0)∧W.cell? ⟨b,1,none⟩=some (.int .i64 a1)∧W.cell? ⟨b,2,none⟩=some (.int .i64 a2)∧W.cell? ⟨b,3,none⟩=some (.int .i64 a3)∧W.cell? ⟨gf,k,none⟩=some (.string ft)) (first|(with_reducible exact⟨m0,m1,m2,m3,m4⟩)|(simp only[World.cell?_drew];with_reducible exact⟨k0,k1,k2,k3,k4⟩)|(simp only[World.cell?_drew,cO nb1,cO nf1];with_reducible exact⟨k0,k1,k2,k3,k4⟩)|(simp only[cO nbw,cO nfw];with_reducible exact⟨m0,m1,m2,m3,m4⟩)|(simp only[eB nb,eB nf];with_reducible exact⟨m0,m1,m2,m3,m4⟩)) (first
     |(go_at_call 137
       refine (HC.out _).mono ?_
       rintro er w1 ⟨⟨e',rfl,_⟩,hg1⟩
       generalize eI e' 0=f0
       generalize eI e' 1=f1
       generalize eI e' 2=f2
       generalize eI e' 3=f3
       have hfr1:Fr [] wr w1:=by first|exact (ar (Fr.refl [] wr)).trans (aK hg1)|exact (ar (aA wr _)).trans (aK hg1)|exact ((ar (Fr.refl [] wr)).alloc _).trans (aK hg1)
       have nbw:b<w1.heap.size:=Nat.lt_of_lt_of_le nb1 hfr1.size
       have nfw:gf<w1.heap.size:=Nat.lt_of_lt_of_le nf1 hfr1.size
       have m0:=aE hfr1 k0
       have m1:=aE hfr1 k1
       have m2:=aE hfr1 k2
       have m3:=aE hfr1 k3
       have m4:=aE hfr1 k4
       have HF1:=af hfr1
       clear hfr1
       try (
        have hnew:w1.heap[wr.heap.size]?=some (.cells #[.int .i64 0,.int .i64 0,.int .i64 0,.int .i64 0] 134 (0,0)):=(hg1.block wr.heap.size (by simp) (by simp)).trans (heap_alloc_new _ _)
        have n0:w1.cell? ⟨wr.heap.size,0,none⟩=some (.int .i64 0):=by rw[cell_of_row _ _ _ _ _ _ hnew];rfl
        have n1:w1.cell? ⟨wr.heap.size,1,none⟩=some (.int .i64 0):=by rw[cell_of_row _ _ _ _ _ _ hnew];rfl
        have n2:w1.cell? ⟨wr.heap.size,2,none⟩=some (.int .i64 0):=by rw[cell_of_row _ _ _ _ _ _ hnew];rfl
        have n3:w1.cell? ⟨wr.heap.size,3,none⟩=some (.int .i64 0):=by rw[cell_of_row _ _ _ _ _ _ hnew];rfl
        have z0:=ai hnew 0
        have z1:=ai hnew 1
        have z2:=ai hnew 2
        have z3:=ai hnew 3
        have HNEW:=af hnew
        clear hnew)
       clear hg1))
    all_goals go_wp2_with fail
    all_goals go_meet
    all_goals first
     |exact⟨rfl,HGRO.out _ (lD HF1.out _ _ _ _)⟩
     |exact⟨rfl,HGRO.out _ (HF1.out.alloc _)⟩
   case rest=>
   obtain⟨rfl,hgc⟩:=hcut
   have HGC:=af hgc
   clear hgc
   cases ok with
   |true=>
    have HRR:=af (HNS.out rfl)
    go_wp2_with fail
    go_ret
    exact⟨by rw[HRR.out];rfl,ae HWA.out.1 HGC.out⟩
   |false=>
    have HN':=af (HGO.out rfl)
    go_wp2_with fail
    go_roundw
    case rel=>exact⟨k+1,by omega,by go_num,HGC.out,HN'.out⟩
    case measure=>simp[intOf];omega
  ·have HRR:Hid (r=true):=af (by rw[HR.out];exact BJ (fun j hj=>HN.out j hj (by omega)))
   clear hgr
   go_wp2_with fail
   go_ret
   exact⟨by rw[HRR.out];rfl,ae HWA.out.1 HGR.out⟩
def bA (l:List aw):ByteArray:=ce (l.map fun q=>cq q.1 q.2.1)
def aI (l:List In):List Value:=l.flatMap fun i=>[.int .i64 i.rule,.int .i64 (eI i.env 0),.int .i64 (eI i.env 1),.int .i64 (eI i.env 2),.int .i64 (eI i.env 3),.string (bA i.facts)]
theorem lj (l:List In)(i:In):aI (l++[i])=aI l++[.int .i64 i.rule,.int .i64 (eI i.env 0),.int .i64 (eI i.env 1),.int .i64 (eI i.env 2),.int .i64 (eI i.env 3),.string (bA i.facts)]:=by simp[aI]
theorem gn:∀ (l:List In)(k:Nat)(hk:k<l.length) ,(aI l)[k*6]?=some (.int .i64 l[k].rule)∧(aI l)[k*6+1]?=some (.int .i64 (eI l[k].env 0))∧(aI l)[k*6+2]?=some (.int .i64 (eI l[k].env 1))∧(aI l)[k*6+3]?=some (.int .i64 (eI l[k].env 2))∧(aI l)[k*6+4]?=some (.int .i64 (eI l[k].env 3))∧(aI l)[k*6+5]?=some (.string (bA l[k].facts))
 |p::l,0,_=>⟨rfl,rfl,rfl,rfl,rfl,rfl⟩
 |p::l,k+1,hk=>by
  obtain⟨h1,h2,h3,h4,h5,h6⟩:=gn l k (by simpa using hk)
  have e:aI (p::l)=.int .i64 p.rule::.int .i64 (eI p.env 0)::.int .i64 (eI p.env 1)::.int .i64 (eI p.env 2)::.int .i64 (eI p.env 3)::.string (bA p.facts)::aI l:=rfl
  rw[e,show (k+1)*6=k*6+1+1+1+1+1+1 by omega]
  exact⟨by simpa using h1,by simpa using h2,by simpa using h3,by simpa using h4,by simpa using h5,by simpa using h6⟩
theorem Tryz.info136:(Tryz.prog.info? 136).map (fun i=>(i.zero,i.size,i.bytes))=some (some (.agg #[.int .i64 0,.int .i64 0,.int .i64 0,.int .i64 0,.int .i64 0,.string ByteArray.empty]),6,56):=by kernel_rfl
theorem tX {α:Type}(P:α→Bool)(l:List α)(k:Nat)(hk:k<l.length):(l.take (k+1)).filter P=(l.take k).filter P++(if P l[k] then [l[k]] else []):=by
 rw[List.take_succ_eq_append_getElem hk,List.filter_append]
 cases h:P l[k] <;> simp[h]
theorem sd (P:In→Bool)(l:List In)(u:ByteArray)(la fa:Option Addr)(lc fm fc B:Nat)(w:World)(hu:0<u.size)(_hu4:u.size≤400)(hc:aR (bt u 0)=false)(hll:l.length≤1000000000)
  (hrow:w.ownsRow B 136 6 (.slice la l.length lc) l.length (aI l))
  (HH:Hid (∀ k (hk:k<l.length) (W:World),w.grownBy W none→Calls Tryz.prog 136 #[fG l[k].env,.string u,.slice fa fm fc] W fun r w'=>r=.returned (.bool (P l[k]))∧W.grownBy w' none)) :
  Calls Tryz.prog 115 #[.slice la l.length lc,.string u,.slice fa fm fc] w fun e w'=>∃ v,e=.returned v∧w'.ownsRow w.heap.size 136 6 v (l.filter P).length (aI (l.filter P))∧w.grownBy w' none:=by
 obtain⟨i0,hi0,hz0,hz1,hz2⟩:=info_parts Tryz.info136
 have HPA:=af (fun W=>id u W hu)
 rw[hc] at HPA
 have HROW:=af hrow
 clear hrow hc
 go_enter Tryz.func115,Tryz.ntmps115
 go_wp2_with fail
 go_at_call 107
 refine (HPA.out _).mono ?_
 rintro e w0 ⟨rfl,rfl⟩
 go_wp2_with fail
 go_loopw [7,9] (fun v t wr=>∃ k:Nat,k≤l.length∧t=.int .i64 k∧wr.ownsRow w.heap.size 136 6 v ((l.take k).filter P).length (aI ((l.take k).filter P))∧w.grownBy wr none) (fun _ t _=>l.length - (intOf t).toNat)
 case atStart=>exact⟨0,by omega,rfl,World.ownsRow_nil _ _ _ _,ag _ _⟩
 case round=>
  obtain⟨k,hk,rfl,hown,hg⟩:=hrel
  have HG:=af hg
  have HOW:=af hown
  by_cases hlt:k<l.length
  ·have HCALL:=af (HH.out k hlt)
   have how:=aq HROW.out hg (fun g hg=>by cases hg)
   obtain⟨gl,rfl,_,hgb,hgl,hcell⟩:=aC how (by omega)
   obtain⟨x0,x1,x2,x3,x4,x5⟩:=gn l k hlt
   have d0:=hcell _ _ x0
   have d1:=hcell _ _ x1
   have d2:=hcell _ _ x2
   have d3:=hcell _ _ x3
   have d4:=hcell _ _ x4
   have d5:=hcell _ _ x5
   have HFT:=af (tX P l k hlt)
   have hfl:((l.take k).filter P).length≤k:=Nat.le_trans (List.length_filter_le _ _) (by simp;omega)
   have HSN:=af (lj ((l.take k).filter P) l[k])
   unfold fG at HCALL
   obtain⟨ok,hok⟩:∃ ok,ok=P l[k]:=⟨_,rfl⟩
   rw[←hok] at HCALL HFT
   obtain⟨it,hit⟩:∃ it,it=l[k]:=⟨_,rfl⟩
   rw[←hit] at HCALL HFT HSN d0 d1 d2 d3 d4 d5
   obtain⟨ru,hru⟩:∃ ru:Int,ru=it.rule:=⟨_,rfl⟩
   obtain⟨e0,he0⟩:∃ e0,e0=eI it.env 0:=⟨_,rfl⟩
   obtain⟨e1,he1⟩:∃ e1,e1=eI it.env 1:=⟨_,rfl⟩
   obtain⟨e2,he2⟩:∃ e2,e2=eI it.env 2:=⟨_,rfl⟩
   obtain⟨e3,he3⟩:∃ e3,e3=eI it.env 3:=⟨_,rfl⟩
   obtain⟨ft,hft⟩:∃ ft,ft=bA it.facts:=⟨_,rfl⟩
   rw[←he0,←he1,←he2,←he3] at HCALL HSN
   rw[←hru,←hft] at HSN
   rw[←hru] at d0
   rw[←he0] at d1
   rw[←he1] at d2
   rw[←he2] at d3
   rw[←he3] at d4
   rw[←hft] at d5
   obtain⟨fl,hfl0⟩:∃ fl,fl=(l.take k).filter P:=⟨_,rfl⟩
   rw[←hfl0] at HFT HSN HOW hfl
   obtain⟨av,mv,cv,rfl⟩:=an hown
   have hgl2:gl<wr.heap.size:=hgl
   clear hcell x0 x1 x2 x3 x4 x5 how hgb hgl hown hg hok hit hru he0 he1 he2 he3 hft hfl0
   go_wp2_with fail
   go_at_call 136
   refine (HCALL.out _ HG.out).mono ?_
   rintro er w1 ⟨rfl,hg1⟩
   have c0:=am hg1 d0
   have c1:=am hg1 d1
   have c2:=am hg1 d2
   have c3:=am hg1 d3
   have c4:=am hg1 d4
   have c5:=am hg1 d5
   have HG1:=af hg1
   have how1:=aq HOW.out hg1 (fun g hg=>by cases hg)
   have em:=au how1
   subst em
   have hs1:=(ae HG.out hg1).size
   clear d0 d1 d2 d3 d4 d5 hg1
   cases ok with
   |false=>
    have HF2:Hid ((l.take (k+1)).filter P=fl):=af (by rw[HFT.out];simp)
    have HO1:=af how1
    clear how1
    go_wp2_with fail
    go_roundw
    case rel=>exact⟨k+1,by omega,by go_num,by rw[HF2.out];exact HO1.out,ae HG.out HG1.out⟩
    case measure=>simp[intOf];omega
   |true=>
    have HF2:Hid ((l.take (k+1)).filter P=fl++[it]):=af (by rw[HFT.out];simp)
    have HO1:=af how1
    go_wp2_with (first|(at_builtin;refine wpList_append_own _ rfl (.tmp 33) (.tmp 38) 130 rfl (w.heap.size) 136 i0 (.agg #[.int .i64 0,.int .i64 0,.int .i64 0,.int .i64 0,.int .i64 0,.string ByteArray.empty]) 6 56 Tryz.underlying130 hi0 hz0 hz1 hz2 rfl (by decide) _ _ _ rfl (how1.alloc _) _ 1 1 [.int .i64 ru,.int .i64 e0,.int .i64 e1,.int .i64 e2,.int .i64 e3,.string ft] rfl rfl ?c1 ?c2 ?c3 ?c4 ?c5 ?_))
    case c1=>intro j u hj;exact bj hj
    case c2=>intro u hu;simp at hu;rcases hu with h|h|h|h|h|h <;> subst h <;> rfl
    case c3=>unfold maxLen;omega
    case c4=>omega
    case c5=>simp;omega
    ·intro v' w3 hown3 hg3 _
     have HO3:Hid (w3.ownsRow w.heap.size 136 6 v' ((l.take (k+1)).filter P).length (aI ((l.take (k+1)).filter P))):=af (by rw[HF2.out,HSN.out];simpa using hown3)
     have HG3:Hid (w.grownBy w3 none):=af (aL (ab (ae HG.out HG1.out) _) hg3 (fun g hg=>(HO1.out.lt g hg).1))
     clear hown3 hg3
     go_wp2_with fail
     go_roundw
     case rel=>exact⟨k+1,by omega,by go_num,HO3.out,HG3.out⟩
     case measure=>simp[intOf];omega
  ·have e:l.take k=l:=List.take_of_length_le (by omega)
   rw[e] at HOW
   clear hown hg
   go_wp2_with fail
   go_ret
   exact⟨_,rfl,HOW.out,HG.out⟩
end Go.Proofs.YthlhbjnkohinmaaGreat
