import Derived.Test.YthlhbjnkohinmaaGreatP25
import Derived.Test.YthlhbjnkohinmaaGreatP32
import Derived.Test.YthlhbjnkohinmaaGreatP12
import Derived.Test.YthlhbjnkohinmaaGreatP30
import Derived.Test.YthlhbjnkohinmaaGreatP36
namespace Go.Proofs.YthlhbjnkohinmaaGreat
set_option maxRecDepth 100000
set_option maxHeartbeats 8000000
open Go.RowKit
def pw (E:bm)(k:Nat)(S:br):bm:={ E with opn:=E.opn.set k S }
structure qT (g1:Nat)(wv fv:Value)(S:br)(w:World):Prop where
 blk:w.heap[g1]?=some (.cells #[.int .i64 S.num,.int .i64 S.snap,wv,fv] 100 (0,0))
 wr:w.ownsRow 0 107 2 wv S.wr.length (aP S.wr)
 fd:w.ownsRow 0 9 1 fv S.fired.length (S.fired.map Value.string)
def gK (g1:Nat)(wv fv:Value):List Nat:=[g1]++(wv.ownBlock.toList++fv.ownBlock.toList)
theorem qT.nodup {g1:Nat}{wv fv:Value}{S:br}{w:World}(h:qT g1 wv fv S w):(gK g1 wv fv).Nodup:=by
 have h1:=aU h.wr h.blk (by decide)
 have h2:=aU h.fd h.blk (by decide)
 have h3:∀ g,wv.ownBlock=some g→fv.ownBlock≠some g:=fun g hg=>by
  obtain⟨cs,hc⟩:=fw h.wr g hg
  exact aU h.fd hc (by decide)
 unfold gK
 cases hw:wv.ownBlock with
 |none=>
  cases hf:fv.ownBlock with
  |none=>simp
  |some b=>
   rw[hf] at h2
   simp
   exact fun e=>h2 (by rw[e])
 |some a=>
  rw[hw] at h1
  cases hf:fv.ownBlock with
  |none=>
   simp
   exact fun e=>h1 (by rw[e])
  |some b=>
   rw[hf] at h2
   have:=h3 a hw
   rw[hf] at this
   simp
   exact⟨⟨fun e=>h1 (by rw[e]),fun e=>h2 (by rw[e])⟩,fun e=>this (by rw[e])⟩
theorem qT.ses {g1:Nat}{wv fv:Value}{S:br}{w:World}(h:qT g1 wv fv S w):ez (.pointer (some ⟨g1,0,none⟩)) S w (gK g1 wv fv):=
 ⟨g1,wv,fv,rfl,[g1],_,⟨h.blk,rfl⟩,⟨_,_,⟨h.wr,rfl⟩,⟨h.fd,rfl⟩,rfl⟩,rfl⟩
theorem wV {L fa g fb:List Nat}(h:(L++(fa++(g++fb))).Nodup):∀ x,(x∈L∨x∈fa∨x∈fb)→x∉g:=by
 simp only[List.nodup_append,List.mem_append] at h
 intro x hx hx2
 grind
theorem bJ.focus {Q:Value→eW}(hQ:∀ v,bT (Q v))(hQw:∀ v,bW (Q v)){y:Nat}{E:bm}{w:World}{f:List Nat}(hE:bJ Q y E w f)(hn:f.Nodup)(k:Nat)(hk:k<E.opn.length):
  ∃ (g1:Nat) (wv fv rv:Value) (ao:Option Addr) (mo co:Nat) (ps:List Value) (fo:List Nat) (ac:Option Addr) (cc:Nat) (cs:List Value) (fc:List Nat),
    w.cell? ⟨y,4,none⟩=some (.slice ao mo co)∧w.ownsRow 0 96 1 (.slice ao mo co) E.opn.length ps∧aB ez ps E.opn w fo∧(∀ h:k<ps.length,ps[k]=.pointer (some ⟨g1,0,none⟩))∧
    qT g1 wv fv E.opn[k] w∧y≠g1∧
    (∀ wv' fv' S' w',qT g1 wv' fv' S' w'→Fr (gK g1 wv fv) w w'→io y E.com S' (.pointer (some ⟨g1,0,none⟩)) ac cc cs fc (gK g1 wv' fv') w'∧w'.cell? ⟨y,0,none⟩=some rv∧∃ f3,Q rv w' f3)∧
    (∀ wv' fv' S' w',qT g1 wv' fv' S' w'→(∀ x∈gK g1 wv' fv',x∈gK g1 wv fv∨w.heap.size≤x)→Fr (gK g1 wv fv) w w'→cM (bJ Q y (pw E k S')) f w w'):=by
 obtain⟨rv,cv,kv,ov,cs,ps,hst⟩:=hE
 have hwi:∀ x∈f,x<w.heap.size:=fun x hx=>bY.within (eY.within _ _ _) (bY.within (hQw rv) (bY.within (bn.within _ _ _ _ _) (bY.within (aB.within (fun _ _=>bn.within _ _ _ _ _) _ _) (bY.within (bn.within _ _ _ _ _) (bY.within (bn.within _ _ _ _ _) (aB.within ez.within _ _)))))) hst x hx
 obtain⟨f1,f2,⟨hb,rfl⟩,⟨f3,f4,hq,⟨f5,f6,hcr,⟨f7,f8,hcom,⟨f9,f10,hkr,⟨f11,f12,hor,hses,rfl⟩,rfl⟩,rfl⟩,rfl⟩,rfl⟩,rfl⟩:=hst
 obtain⟨ao,mo,co,rfl⟩:=an hor.1
 obtain⟨ac,mc,cc,rfl⟩:=an hcr.1
 have emc:=au hcr.1
 subst emc
 have hpl:=aB.len hses
 have hk2:k<ps.length:=by omega
 obtain⟨fa,g,fb,hse,e12,hput⟩:=aB.focus ez.framed hses k hk2 hk
 obtain⟨g1,wv,fv,hp,u1,u2,⟨hb1,rfl⟩,⟨u3,u4,⟨h1,rfl⟩,⟨h2,rfl⟩,rfl⟩,rfl⟩:=hse
 have hSO:qT g1 wv fv E.opn[k] w:=⟨hb1,h1,h2⟩
 have hses':=hses
 subst e12
 have hn2:((([y]++(f3++(f5++(f7++(f9++f11))))))++(fa++(gK g1 wv fv++fb))).Nodup:=by
  simp only[List.append_assoc,gK] at hn ⊢
  exact hn
 have hdis:=wV hn2
 have hyl:=lt_of_block hb
 refine⟨g1,wv,fv,rv,ao,mo,co,ps,_,ac,cc,cs,f7,by simp[World.cell?,hb],hor.1,hses',fun _=>hp,hSO,?_,?_,?_⟩
 ·intro e
  exact hdis y (.inl (by simp)) (by rw[e];simp[gK])
 ·intro wv' fv' S' w' hS hfr
  have hby:=(hfr.block y hyl (hdis y (.inl (by simp)))).trans hb
  refine⟨⟨by simp[World.cell?,hby],(bn.framed _ _ _ _ _ hcr hfr (fun x hx=>hdis x (.inl (by simp[hx])))).1,aB.framed im.framed _ _ hcom hfr (fun x hx=>hdis x (.inl (by simp[hx]))),hS.ses⟩,by simp[World.cell?,hby],f3,hQ rv hq hfr (fun x hx=>hdis x (.inl (by simp[hx])))⟩
 ·intro wv' fv' S' w' hS hsub hfr
  have hE2:=hput _ _ w' _ _ hS.ses hfr (fun x hx=>hdis x (.inr (.inl hx))) (fun x hx=>hdis x (.inr (.inr hx)))
  have hps:ps.set k (.pointer (some ⟨g1,0,none⟩))=ps:=by rw[←hp];simp
  rw[hps] at hE2
  have hlen:(pw E k S').opn.length=E.opn.length:=by simp[pw]
  refine⟨([y]++(f3++(f5++(f7++(f9++(f11++(fa++(gK g1 wv' fv'++fb)))))))),⟨rv,_,kv,_,cs,ps,[y],_,eY.framed _ _ _ ⟨hb,rfl⟩ hfr (fun x hx=>hdis x (.inl (by simp at hx ⊢;simp[hx]))),⟨f3,_,hQ rv hq hfr (fun x hx=>hdis x (.inl (by simp[hx]))),⟨f5,_,bn.framed _ _ _ _ _ hcr hfr (fun x hx=>hdis x (.inl (by simp[hx]))),⟨f7,_,aB.framed im.framed _ _ hcom hfr (fun x hx=>hdis x (.inl (by simp[hx]))),⟨f9,_,bn.framed _ _ _ _ _ hkr hfr (fun x hx=>hdis x (.inl (by simp[hx]))),⟨f11,_,?_,hE2,rfl⟩,rfl⟩,rfl⟩,rfl⟩,rfl⟩,rfl⟩,?_,?_,?_⟩
  ·rw[hlen]
   exact bn.framed _ _ _ _ _ hor hfr (fun x hx=>hdis x (.inl (by simp[hx])))
  ·have hsz:∀ x∈(([y]++(f3++(f5++(f7++(f9++f11)))))++fa)++(gK g1 wv fv++fb),x<w.heap.size:=by
    intro x hx
    apply hwi x
    simp only[List.append_assoc,gK] at hx ⊢
    exact hx
   have hn3:((([y]++(f3++(f5++(f7++(f9++f11)))))++fa)++(gK g1 wv fv++fb)).Nodup:=by
    simp only[List.append_assoc] at hn2 ⊢
    exact hn2
   have:=eb hn3 hsz hS.nodup hsub
   simp only[List.append_assoc] at this ⊢
   exact this
  ·intro x hx
   simp only[List.mem_append,List.mem_singleton] at hx ⊢
   have h5:x∈gK g1 wv' fv'→x∈gK g1 wv fv∨w.heap.size≤x:=hsub x
   simp only[gK,List.mem_append,List.mem_singleton] at h5 hx
   grind
  ·refine hfr.mono (fun x hx=>.inl ?_)
   simp only[gK,List.mem_append,List.mem_singleton] at hx ⊢
   grind
theorem wR (a0 a1 a2 a3 x t1 g y:Int)(u:ByteArray)(w:World)(hu:1≤u.size)(hul:u.size≤400)(hx0:-1≤x)(hx1:x≤9)(h0:bt u 0=t1)(hg:bt u 1=g)(hy:y=x+g9 g)
  (H1:Hid (∀ W,Calls Tryz.prog 139 #[.agg #[.int .i64 a0,.int .i64 a1,.int .i64 a2,.int .i64 a3],.int .u8 t1] W fun r w'=>r=.returned (.int .i64 x)∧W.grownBy w' none)) :
  Calls Tryz.prog 121 #[.agg #[.int .i64 a0,.int .i64 a1,.int .i64 a2,.int .i64 a3],.string u] w fun r w'=>r=.returned (.int .i64 y)∧w.grownBy w' none:=by
 have s0:0<u.size:=by omega
 have u0:((u[0]'s0).toNat:Int)=t1:=by rw[←h0,bh s0]
 have HY:=af hy
 have HG:=af hg
 clear h0 hy hg
 go_enter Tryz.func121,Tryz.ntmps121
 go_wp2_with fail
 generalize hW0:World.alloc _ _=W0
 have HW0:Hid (w.grownBy W0 none∧W0.heap[w.heap.size]?=some (.cells #[.int .i64 a0,.int .i64 a1,.int .i64 a2,.int .i64 a3] 134 (0,0))):=af (by
  rw[←hW0]
  exact⟨ab (ag _ _) _,heap_alloc_new w _⟩)
 clear hW0
 have k0:W0.cell? ⟨w.heap.size,0,none⟩=some (.int .i64 a0):=by rw[cell_of_row _ _ _ _ _ _ HW0.out.2];rfl
 have k1:W0.cell? ⟨w.heap.size,1,none⟩=some (.int .i64 a1):=by rw[cell_of_row _ _ _ _ _ _ HW0.out.2];rfl
 have k2:W0.cell? ⟨w.heap.size,2,none⟩=some (.int .i64 a2):=by rw[cell_of_row _ _ _ _ _ _ HW0.out.2];rfl
 have k3:W0.cell? ⟨w.heap.size,3,none⟩=some (.int .i64 a3):=by rw[cell_of_row _ _ _ _ _ _ HW0.out.2];rfl
 have HG0:=af HW0.out.1
 clear HW0
 generalize w.heap.size=b at k0 k1 k2 k3 ⊢
 go_region_held3 (fun W=>W.cell? ⟨b,0,none⟩=some (.int .i64 a0)∧W.cell? ⟨b,1,none⟩=some (.int .i64 a1)∧W.cell? ⟨b,2,none⟩=some (.int .i64 a2)∧W.cell? ⟨b,3,none⟩=some (.int .i64 a3)) (first|(with_reducible exact⟨m0,m1,m2,m3⟩)|(simp only[World.cell?_drew];with_reducible exact⟨k0,k1,k2,k3⟩)) (first
  |(go_at_call 139
    refine (H1.out _).mono ?_
    rintro e w1 ⟨rfl,hg1⟩
    have hfr1:Fr [] W0 w1:=(ar (Fr.refl [] W0)).trans (aK hg1)
    have m0:=aE hfr1 k0
    have m1:=aE hfr1 k1
    have m2:=aE hfr1 k2
    have m3:=aE hfr1 k3
    have HG1:Hid (w.grownBy w1 none):=af (ae HG0.out (bG hfr1))
    clear hfr1 hg1))
 by_cases hs:1<u.size
 ·have u1:((u[1]'hs).toNat:Int)=g:=by rw[←HG.out,bh hs]
  by_cases h94:g=94
  ·subst h94
   have HR:Hid (y=x+1):=af (by rw[HY.out];rfl)
   go_wp2_with fail
   go_ret
   exact⟨by rw[HR.out];rfl,HG1.out⟩
  ·by_cases h126:g=126
   ·subst h126
    have HR:Hid (y=x - 1):=af (by rw[HY.out];rfl)
    go_wp2_with fail
    go_ret
    exact⟨by rw[HR.out];rfl,HG1.out⟩
   ·have HR:Hid (y=x):=af (by rw[HY.out];unfold g9;rw[if_neg h94,if_neg h126];omega)
    have q1:(g==94)=false:=by simpa using h94
    have q2:(g==126)=false:=by simpa using h126
    clear h94 h126
    go_wp2_with fail
    go_ret
    exact⟨by rw[HR.out];rfl,HG1.out⟩
 ·have HR:Hid (y=x):=af (by
   have:g=0:=by rw[←HG.out];exact oh (by omega)
   rw[HY.out,this]
   unfold g9
   simp)
  go_wp2_with fail
  go_ret
  exact⟨by rw[HR.out];rfl,HG1.out⟩
theorem ye (e:fq)(t:Int)(he:∀ n v,e n=some v→0≤v∧v≤9):-1≤fF (-1) e t∧fF (-1) e t≤9:=by
 unfold fF
 split
 ·rename_i h
  have:48≤t∧t≤57:=by simpa [bM] using h
  omega
 ·cases h:e (t - 119).toNat with
  |none=>simp
  |some v=>
   have:=he _ _ h
   simp only[Option.getD_some]
   omega
theorem xM (e:fq)(u:ByteArray)(w:World)(hu:1≤u.size)(hul:u.size≤400)(h0:bd (bt u 0)=true)(he:∀ n v,e n=some v→0≤v∧v≤9):
  Calls Tryz.prog 121 #[fG e,.string u] w fun r w'=>r=.returned (.int .i64 (fF (-1) e (bt u 0)+g9 (bt u 1)))∧w.grownBy w' none:=
 wR _ _ _ _ _ (bt u 0) (bt u 1) _ u w hu hul (ye e _ he).1 (ye e _ he).2 rfl rfl rfl (af (fun W=>oX e _ W (bU u 0).1 (bU u 0).2 h0))
theorem dS {P:Program}{fn:Func}{p u v:Tmp}{ty t:TypeId}(h:fn.results=#[.cell p ty,.tmp u,.tmp v]){tmps:Array Value}{w:World}{g:Nat}{cs:Array Value}{d:TypeDesc}{x y:Value}
  (hp:tmps.getD p undef=.pointer (some ⟨g,0,none⟩)) (hg:w.heap[g]?=some (.cells cs t (0,0)))
  (hu:P.underlying ty=some d) (hd:(match d with|.struct _|.array _ _=>true|_=>false)=true) (hi:(P.info? ty).map (·.size)=some cs.size) (hx:tmps.getD u undef=x) (hy:tmps.getD v undef=y) :
  (results fn tmps).run P w=.ok (.tuple #[.agg cs,x,y]) w:=by
 have hp':tmps[p]?.getD undef=.pointer (some ⟨g,0,none⟩):=by simpa using hp
 have hx':tmps[u]?.getD undef=x:=by simpa using hx
 have hy':tmps[v]?.getD undef=y:=by simpa using hy
 simp only[results,h]
 simp[Result.andThen,hp',hx',hy',asAddr,run_loadVar_row w g t ty cs (0,0) d hg hu hd hi]
theorem CH (a0 a1 a2 a3:Int)(w:World):
  Calls Tryz.prog 98 #[.agg #[.int .i64 a0,.int .i64 a1,.int .i64 a2,.int .i64 a3],.string ⟨#[46]⟩] w fun r w'=>r=.returned (.tuple #[.agg #[.string ByteArray.empty,.int .i64 0],.bool true,.bool true])∧w.grownBy w' none:=by
 go_enter Tryz.func98,Tryz.ntmps98
 go_wp2_with fail
 refine bodyPost_ret (dS Tryz.results98 rfl (gG (by simp)) Tryz.underlying107 rfl (by kernel_rfl) rfl rfl) rfl ⟨rfl,?_⟩
 exact ab (ab (ag _ _) _) _
theorem th {u:ByteArray}(h:3≤u.size):(u.toList==[46])=false:=by
 rw[beq_eq_false_iff_ne]
 intro hu
 have:u.toList.length=1:=by rw[hu];rfl
 rw[Lib.toList_data] at this
 have h2:u.data.toList.length=u.size:=by simp
 omega
def lS (u:ByteArray)(d v:Int)(ok:Bool):Value:=.tuple (if ok then #[.agg #[.string (strOfNums [bt u 1,48+d]),.int .i64 v],.bool true,.bool false] else #[.agg #[.string ByteArray.empty,.int .i64 0],.bool false,.bool false])
theorem A9 (a0 a1 a2 a3 d:Int)(u:ByteArray)(w:World)(hu:3≤u.size)(hul:u.size≤400)(h0:bt u 0=45)(hs:u.size≤3)(hd0:-2≤d)(hd1:d≤10)
  (H1:Hid (∀ W,Calls Tryz.prog 121 #[.agg #[.int .i64 a0,.int .i64 a1,.int .i64 a2,.int .i64 a3],.string (u.extract 2 3)] W fun r w'=>r=.returned (.int .i64 d)∧W.grownBy w' none)) :
  Calls Tryz.prog 98 #[.agg #[.int .i64 a0,.int .i64 a1,.int .i64 a2,.int .i64 a3],.string u] w fun r w'=>r=.returned (lS u d (-1) (decide (0≤d)&&decide (d<10)))∧w.grownBy w' none:=by
 have s0:0<u.size:=by omega
 have s1:1<u.size:=by omega
 have u0:((u[0]'s0).toNat:Int)=45:=by rw[←h0,bh s0]
 obtain⟨c,hc⟩:∃ c,c=bt u 1:=⟨_,rfl⟩
 have hc0:0≤c∧c≤255:=by rw[hc];exact bU u 1
 have u1:((u[1]'s1).toNat:Int)=c:=by rw[hc,bh s1]
 have qd:=th hu
 obtain⟨r,hr⟩:∃ r,r=lS u d (-1) (decide (0≤d)&&decide (d<10)):=⟨_,rfl⟩
 rw[←hr]
 have HR:=af hr
 clear h0 hr
 go_enter Tryz.func98,Tryz.ntmps98
 go_wp2_with fail
 generalize hW0:World.alloc _ _=W0
 have HW0:Hid (w.grownBy W0 none∧W0.heap[w.heap.size]?=some (.cells #[.int .i64 a0,.int .i64 a1,.int .i64 a2,.int .i64 a3] 134 (0,0))∧W0.heap[w.heap.size+1]?=some (.cells #[.string ⟨#[]⟩,.int .i64 0] 107 (0,0))∧w.heap.size+1<W0.heap.size):=af (by
  rw[←hW0]
  exact⟨ab (ab (ag _ _) _) _,(Below.heap_alloc _ _ _ (by simp)).trans (heap_alloc_new w _),gG (by simp),by simp⟩)
 clear hW0
 have k0:W0.cell? ⟨w.heap.size,0,none⟩=some (.int .i64 a0):=by rw[cell_of_row _ _ _ _ _ _ HW0.out.2.1];rfl
 have k1:W0.cell? ⟨w.heap.size,1,none⟩=some (.int .i64 a1):=by rw[cell_of_row _ _ _ _ _ _ HW0.out.2.1];rfl
 have k2:W0.cell? ⟨w.heap.size,2,none⟩=some (.int .i64 a2):=by rw[cell_of_row _ _ _ _ _ _ HW0.out.2.1];rfl
 have k3:W0.cell? ⟨w.heap.size,3,none⟩=some (.int .i64 a3):=by rw[cell_of_row _ _ _ _ _ _ HW0.out.2.1];rfl
 generalize hb:w.heap.size=b at k0 k1 k2 k3 ⊢
 go_region_held3 (fun W=>W.cell? ⟨b,0,none⟩=some (.int .i64 a0)∧W.cell? ⟨b,1,none⟩=some (.int .i64 a1)∧W.cell? ⟨b,2,none⟩=some (.int .i64 a2)∧W.cell? ⟨b,3,none⟩=some (.int .i64 a3)) (first|(with_reducible exact⟨m0,m1,m2,m3⟩)|(simp only[World.cell?_drew];with_reducible exact⟨k0,k1,k2,k3⟩)) (first
  |(go_at_call 121
    refine (H1.out _).mono ?_
    rintro e w1 ⟨rfl,hgx⟩
    have hfr:Fr [] W0 w1:=(ar (Fr.refl [] W0)).trans (aK hgx)
    have m0:=aE hfr k0
    have m1:=aE hfr k1
    have m2:=aE hfr k2
    have m3:=aE hfr k3
    have HF:Hid (Fr [] W0 w1):=af (hfr)
    clear hfr hgx))
 have HGX:Hid (w.grownBy w1 none):=af (ae HW0.out.1 (bG HF.out))
 have hblk:w1.heap[b+1]?=some (.cells #[.string ⟨#[]⟩,.int .i64 0] 107 (0,0)):=by rw[←hb];exact (HF.out.block _ HW0.out.2.2.2 (by simp)).trans HW0.out.2.2.1
 have hbs:b+1<w1.heap.size:=by rw[←hb];exact Nat.lt_of_lt_of_le HW0.out.2.2.2 HF.out.size
 have hbw:w.heap.size≤b+1:=by omega
 have r0:w1.cell? ⟨b+1,0,none⟩=some (.string ⟨#[]⟩):=by rw[cell_of_row _ _ _ _ _ _ hblk];rfl
 have r1:w1.cell? ⟨b+1,1,none⟩=some (.int .i64 0):=by rw[cell_of_row _ _ _ _ _ _ hblk];rfl
 have z0:=ai hblk 0
 have z1:=ai hblk 1
 have HBLK:=af hblk
 have HBS:=af hbs
 have HBW:=af hbw
 have HHB:=af hb
 clear hblk hbs hbw hb
 by_cases e0:0≤d
 case neg=>
  have HRR:Hid (r=lS u d (-1) false):=af (by rw[HR.out];congr 1;simp only[Bool.and_eq_false_iff,decide_eq_false_iff_not];omega)
  go_wp2_with fail
  refine bodyPost_ret (dS Tryz.results98 rfl (ah (ah HBLK.out _ _) _ _) Tryz.underlying107 rfl (by kernel_rfl) rfl rfl) rfl ⟨by rw[HRR.out];rfl,?_⟩
  exact aj (aj HGX.out (.inr HBW.out) _) (.inr HBW.out) _
 case pos=>
  by_cases e1:d≤9
  case neg=>
   have HRR:Hid (r=lS u d (-1) false):=af (by rw[HR.out];congr 1;simp only[Bool.and_eq_false_iff,decide_eq_false_iff_not];omega)
   go_wp2_with fail
   refine bodyPost_ret (dS Tryz.results98 rfl (ah (ah HBLK.out _ _) _ _) Tryz.underlying107 rfl (by kernel_rfl) rfl rfl) rfl ⟨by rw[HRR.out];rfl,?_⟩
   exact aj (aj HGX.out (.inr HBW.out) _) (.inr HBW.out) _
  case pos=>
   have HRR:Hid (r=lS u d (-1) true):=af (by rw[HR.out];congr 1;simp only[Bool.and_eq_true,decide_eq_true_eq];omega)
   have hcv:=run_convert_bytes_arg (P:=Tryz.prog) (w1.alloc (.cells #[.int .u8 c,.int .u8 (48+d)] 5)) 160 5 Tryz.underlying160 Tryz.underlying5 w1.heap.size 0 2 2 [c,48+d] rfl (by
    intro i hi
    rw[World.cell?_alloc_at _ _ _ _ rfl]
    match i,hi with
    |0,_=>rfl
    |1,_=>rfl) 9 Tryz.underlying9
   have HCC:=af hc
   clear hc
   have hbs:=HBS.out
   go_wp2_with fail
   refine bodyPost_ret (dS Tryz.results98 rfl ((Below.heap_alloc _ _ _ (by simpa using HBS.out)).trans (ah (ah HBLK.out _ _) _ _)) Tryz.underlying107 rfl (by kernel_rfl) rfl rfl) rfl ⟨by rw[HRR.out];unfold lS;rw[←HCC.out];rfl,?_⟩
   exact ab (aj (aj HGX.out (.inr HBW.out) _) (.inr HBW.out) _) _
theorem AR (a0 a1 a2 a3 d:Int)(u:ByteArray)(w:World)(hu:3≤u.size)(hul:u.size≤400)(h0:bt u 0=45)(hs:3<u.size)(ht:fe (bt u 3)=true)(hd0:-2≤d)(hd1:d≤10)
  (H1:Hid (∀ W,Calls Tryz.prog 121 #[.agg #[.int .i64 a0,.int .i64 a1,.int .i64 a2,.int .i64 a3],.string (u.extract 2 4)] W fun r w'=>r=.returned (.int .i64 d)∧W.grownBy w' none)) :
  Calls Tryz.prog 98 #[.agg #[.int .i64 a0,.int .i64 a1,.int .i64 a2,.int .i64 a3],.string u] w fun r w'=>r=.returned (lS u d (-1) (decide (0≤d)&&decide (d<10)))∧w.grownBy w' none:=by
 have s0:0<u.size:=by omega
 have s1:1<u.size:=by omega
 have u0:((u[0]'s0).toNat:Int)=45:=by rw[←h0,bh s0]
 obtain⟨c,hc⟩:∃ c,c=bt u 1:=⟨_,rfl⟩
 have hc0:0≤c∧c≤255:=by rw[hc];exact bU u 1
 have u1:((u[1]'s1).toNat:Int)=c:=by rw[hc,bh s1]
 have qd:=th hu
 obtain⟨r,hr⟩:∃ r,r=lS u d (-1) (decide (0≤d)&&decide (d<10)):=⟨_,rfl⟩
 rw[←hr]
 have HR:=af hr
 clear h0 hr
 have u3:((u[3]'hs).toNat:Int)=bt u 3:=by rw[bh hs]
 obtain⟨t,hht⟩:∃ t,t=bt u 3:=⟨_,rfl⟩
 rw[←hht] at u3 ht
 have HT:=af (fun W=>by have h:=na t W (by rw[hht];exact (bU u 3).1) (by rw[hht];exact (bU u 3).2);rw[ht] at h;exact h)
 clear hht ht
 go_enter Tryz.func98,Tryz.ntmps98
 go_wp2_with fail
 go_at_call 120
 refine (HT.out _).mono ?_
 rintro e w' ⟨rfl,rfl⟩
 go_wp2_with fail
 generalize hW0:World.alloc _ _=W0
 have HW0:Hid (w.grownBy W0 none∧W0.heap[w.heap.size]?=some (.cells #[.int .i64 a0,.int .i64 a1,.int .i64 a2,.int .i64 a3] 134 (0,0))∧W0.heap[w.heap.size+1]?=some (.cells #[.string ⟨#[]⟩,.int .i64 0] 107 (0,0))∧w.heap.size+1<W0.heap.size):=af (by
  rw[←hW0]
  exact⟨ab (ab (ag _ _) _) _,(Below.heap_alloc _ _ _ (by simp)).trans (heap_alloc_new w _),gG (by simp),by simp⟩)
 clear hW0
 have k0:W0.cell? ⟨w.heap.size,0,none⟩=some (.int .i64 a0):=by rw[cell_of_row _ _ _ _ _ _ HW0.out.2.1];rfl
 have k1:W0.cell? ⟨w.heap.size,1,none⟩=some (.int .i64 a1):=by rw[cell_of_row _ _ _ _ _ _ HW0.out.2.1];rfl
 have k2:W0.cell? ⟨w.heap.size,2,none⟩=some (.int .i64 a2):=by rw[cell_of_row _ _ _ _ _ _ HW0.out.2.1];rfl
 have k3:W0.cell? ⟨w.heap.size,3,none⟩=some (.int .i64 a3):=by rw[cell_of_row _ _ _ _ _ _ HW0.out.2.1];rfl
 generalize hb:w.heap.size=b at k0 k1 k2 k3 ⊢
 go_region_held3 (fun W=>W.cell? ⟨b,0,none⟩=some (.int .i64 a0)∧W.cell? ⟨b,1,none⟩=some (.int .i64 a1)∧W.cell? ⟨b,2,none⟩=some (.int .i64 a2)∧W.cell? ⟨b,3,none⟩=some (.int .i64 a3)) (first|(with_reducible exact⟨m0,m1,m2,m3⟩)|(simp only[World.cell?_drew];with_reducible exact⟨k0,k1,k2,k3⟩)) (first
  |(go_at_call 121
    refine (H1.out _).mono ?_
    rintro e w1 ⟨rfl,hgx⟩
    have hfr:Fr [] W0 w1:=(ar (Fr.refl [] W0)).trans (aK hgx)
    have m0:=aE hfr k0
    have m1:=aE hfr k1
    have m2:=aE hfr k2
    have m3:=aE hfr k3
    have HF:Hid (Fr [] W0 w1):=af (hfr)
    clear hfr hgx))
 have HGX:Hid (w.grownBy w1 none):=af (ae HW0.out.1 (bG HF.out))
 have hblk:w1.heap[b+1]?=some (.cells #[.string ⟨#[]⟩,.int .i64 0] 107 (0,0)):=by rw[←hb];exact (HF.out.block _ HW0.out.2.2.2 (by simp)).trans HW0.out.2.2.1
 have hbs:b+1<w1.heap.size:=by rw[←hb];exact Nat.lt_of_lt_of_le HW0.out.2.2.2 HF.out.size
 have hbw:w.heap.size≤b+1:=by omega
 have r0:w1.cell? ⟨b+1,0,none⟩=some (.string ⟨#[]⟩):=by rw[cell_of_row _ _ _ _ _ _ hblk];rfl
 have r1:w1.cell? ⟨b+1,1,none⟩=some (.int .i64 0):=by rw[cell_of_row _ _ _ _ _ _ hblk];rfl
 have z0:=ai hblk 0
 have z1:=ai hblk 1
 have HBLK:=af hblk
 have HBS:=af hbs
 have HBW:=af hbw
 have HHB:=af hb
 clear hblk hbs hbw hb
 by_cases e0:0≤d
 case neg=>
  have HRR:Hid (r=lS u d (-1) false):=af (by rw[HR.out];congr 1;simp only[Bool.and_eq_false_iff,decide_eq_false_iff_not];omega)
  go_wp2_with fail
  refine bodyPost_ret (dS Tryz.results98 rfl (ah (ah HBLK.out _ _) _ _) Tryz.underlying107 rfl (by kernel_rfl) rfl rfl) rfl ⟨by rw[HRR.out];rfl,?_⟩
  exact aj (aj HGX.out (.inr HBW.out) _) (.inr HBW.out) _
 case pos=>
  by_cases e1:d≤9
  case neg=>
   have HRR:Hid (r=lS u d (-1) false):=af (by rw[HR.out];congr 1;simp only[Bool.and_eq_false_iff,decide_eq_false_iff_not];omega)
   go_wp2_with fail
   refine bodyPost_ret (dS Tryz.results98 rfl (ah (ah HBLK.out _ _) _ _) Tryz.underlying107 rfl (by kernel_rfl) rfl rfl) rfl ⟨by rw[HRR.out];rfl,?_⟩
   exact aj (aj HGX.out (.inr HBW.out) _) (.inr HBW.out) _
  case pos=>
   have HRR:Hid (r=lS u d (-1) true):=af (by rw[HR.out];congr 1;simp only[Bool.and_eq_true,decide_eq_true_eq];omega)
   have hcv:=run_convert_bytes_arg (P:=Tryz.prog) (w1.alloc (.cells #[.int .u8 c,.int .u8 (48+d)] 5)) 160 5 Tryz.underlying160 Tryz.underlying5 w1.heap.size 0 2 2 [c,48+d] rfl (by
    intro i hi
    rw[World.cell?_alloc_at _ _ _ _ rfl]
    match i,hi with
    |0,_=>rfl
    |1,_=>rfl) 9 Tryz.underlying9
   have HCC:=af hc
   clear hc
   have hbs:=HBS.out
   go_wp2_with fail
   refine bodyPost_ret (dS Tryz.results98 rfl ((Below.heap_alloc _ _ _ (by simpa using HBS.out)).trans (ah (ah HBLK.out _ _) _ _)) Tryz.underlying107 rfl (by kernel_rfl) rfl rfl) rfl ⟨by rw[HRR.out];unfold lS;rw[←HCC.out];rfl,?_⟩
   exact ab (aj (aj HGX.out (.inr HBW.out) _) (.inr HBW.out) _) _
theorem zC (a0 a1 a2 a3 d v:Int)(u:ByteArray)(w:World)(hu:3≤u.size)(hul:u.size≤400)(h0:bt u 0=43)(hs:3<u.size)(ht:fe (bt u 3)=true)(hd0:-2≤d)(hd1:d≤10)(hv0:-2≤v)(hv1:v≤10)
  (H1:Hid (∀ W,Calls Tryz.prog 121 #[.agg #[.int .i64 a0,.int .i64 a1,.int .i64 a2,.int .i64 a3],.string (u.extract 2 4)] W fun r w'=>r=.returned (.int .i64 d)∧W.grownBy w' none))
  (H2:Hid (∀ W,Calls Tryz.prog 121 #[.agg #[.int .i64 a0,.int .i64 a1,.int .i64 a2,.int .i64 a3],.string (u.extract 4 u.size)] W fun r w'=>r=.returned (.int .i64 v)∧W.grownBy w' none)) :
  Calls Tryz.prog 98 #[.agg #[.int .i64 a0,.int .i64 a1,.int .i64 a2,.int .i64 a3],.string u] w fun r w'=>r=.returned (lS u d v (decide (0≤d)&&decide (d<10)&&decide (0≤v)&&decide (v<10)))∧w.grownBy w' none:=by
 have s0:0<u.size:=by omega
 have s1:1<u.size:=by omega
 have u0:((u[0]'s0).toNat:Int)=43:=by rw[←h0,bh s0]
 obtain⟨c,hc⟩:∃ c,c=bt u 1:=⟨_,rfl⟩
 have hc0:0≤c∧c≤255:=by rw[hc];exact bU u 1
 have u1:((u[1]'s1).toNat:Int)=c:=by rw[hc,bh s1]
 have qd:=th hu
 obtain⟨r,hr⟩:∃ r,r=lS u d v (decide (0≤d)&&decide (d<10)&&decide (0≤v)&&decide (v<10)):=⟨_,rfl⟩
 rw[←hr]
 have HR:=af hr
 clear h0 hr
 have u3:((u[3]'hs).toNat:Int)=bt u 3:=by rw[bh hs]
 obtain⟨t,hht⟩:∃ t,t=bt u 3:=⟨_,rfl⟩
 rw[←hht] at u3 ht
 have HT:=af (fun W=>by have h:=na t W (by rw[hht];exact (bU u 3).1) (by rw[hht];exact (bU u 3).2);rw[ht] at h;exact h)
 clear hht ht
 go_enter Tryz.func98,Tryz.ntmps98
 go_wp2_with fail
 go_at_call 120
 refine (HT.out _).mono ?_
 rintro e w' ⟨rfl,rfl⟩
 go_wp2_with fail
 generalize hW0:World.alloc _ _=W0
 have HW0:Hid (w.grownBy W0 none∧W0.heap[w.heap.size]?=some (.cells #[.int .i64 a0,.int .i64 a1,.int .i64 a2,.int .i64 a3] 134 (0,0))∧W0.heap[w.heap.size+1]?=some (.cells #[.string ⟨#[]⟩,.int .i64 0] 107 (0,0))∧w.heap.size+1<W0.heap.size):=af (by
  rw[←hW0]
  exact⟨ab (ab (ag _ _) _) _,(Below.heap_alloc _ _ _ (by simp)).trans (heap_alloc_new w _),gG (by simp),by simp⟩)
 clear hW0
 have k0:W0.cell? ⟨w.heap.size,0,none⟩=some (.int .i64 a0):=by rw[cell_of_row _ _ _ _ _ _ HW0.out.2.1];rfl
 have k1:W0.cell? ⟨w.heap.size,1,none⟩=some (.int .i64 a1):=by rw[cell_of_row _ _ _ _ _ _ HW0.out.2.1];rfl
 have k2:W0.cell? ⟨w.heap.size,2,none⟩=some (.int .i64 a2):=by rw[cell_of_row _ _ _ _ _ _ HW0.out.2.1];rfl
 have k3:W0.cell? ⟨w.heap.size,3,none⟩=some (.int .i64 a3):=by rw[cell_of_row _ _ _ _ _ _ HW0.out.2.1];rfl
 generalize hb:w.heap.size=b at k0 k1 k2 k3 ⊢
 go_region_held3 (fun W=>W.cell? ⟨b,0,none⟩=some (.int .i64 a0)∧W.cell? ⟨b,1,none⟩=some (.int .i64 a1)∧W.cell? ⟨b,2,none⟩=some (.int .i64 a2)∧W.cell? ⟨b,3,none⟩=some (.int .i64 a3)) (first|(with_reducible exact⟨m0,m1,m2,m3⟩)|(simp only[World.cell?_drew];with_reducible exact⟨k0,k1,k2,k3⟩)) (first
  |(go_at_call 121
    refine (H1.out _).mono ?_
    rintro e w1 ⟨rfl,hgx⟩
    have hfr:Fr [] W0 w1:=(ar (Fr.refl [] W0)).trans (aK hgx)
    have m0:=aE hfr k0
    have m1:=aE hfr k1
    have m2:=aE hfr k2
    have m3:=aE hfr k3
    have HF1:Hid (Fr [] W0 w1):=af (hfr)
    clear hfr hgx))
 go_wp2_with fail
 go_region_held3 (fun W=>W.cell? ⟨b,0,none⟩=some (.int .i64 a0)∧W.cell? ⟨b,1,none⟩=some (.int .i64 a1)∧W.cell? ⟨b,2,none⟩=some (.int .i64 a2)∧W.cell? ⟨b,3,none⟩=some (.int .i64 a3)) (first|(with_reducible exact⟨p0,p1,p2,p3⟩)|(simp only[World.cell?_drew];with_reducible exact⟨m0,m1,m2,m3⟩)) (first
  |(go_at_call 121
    refine (H2.out _).mono ?_
    rintro e w2 ⟨rfl,hgx⟩
    have hfr:Fr [] w1 w2:=(ar (Fr.refl [] w1)).trans (aK hgx)
    have p0:=aE hfr m0
    have p1:=aE hfr m1
    have p2:=aE hfr m2
    have p3:=aE hfr m3
    have HF:Hid (Fr [] W0 w2):=af (HF1.out.trans hfr)
    clear hfr hgx))
 have HGX:Hid (w.grownBy w2 none):=af (ae HW0.out.1 (bG HF.out))
 have hblk:w2.heap[b+1]?=some (.cells #[.string ⟨#[]⟩,.int .i64 0] 107 (0,0)):=by rw[←hb];exact (HF.out.block _ HW0.out.2.2.2 (by simp)).trans HW0.out.2.2.1
 have hbs:b+1<w2.heap.size:=by rw[←hb];exact Nat.lt_of_lt_of_le HW0.out.2.2.2 HF.out.size
 have hbw:w.heap.size≤b+1:=by omega
 have r0:w2.cell? ⟨b+1,0,none⟩=some (.string ⟨#[]⟩):=by rw[cell_of_row _ _ _ _ _ _ hblk];rfl
 have r1:w2.cell? ⟨b+1,1,none⟩=some (.int .i64 0):=by rw[cell_of_row _ _ _ _ _ _ hblk];rfl
 have z0:=ai hblk 0
 have z1:=ai hblk 1
 have HBLK:=af hblk
 have HBS:=af hbs
 have HBW:=af hbw
 have HHB:=af hb
 clear hblk hbs hbw hb
 by_cases e0:0≤d
 case neg=>
  have HRR:Hid (r=lS u d v false):=af (by rw[HR.out];congr 1;simp only[Bool.and_eq_false_iff,decide_eq_false_iff_not];omega)
  go_wp2_with fail
  refine bodyPost_ret (dS Tryz.results98 rfl (ah (ah HBLK.out _ _) _ _) Tryz.underlying107 rfl (by kernel_rfl) rfl rfl) rfl ⟨by rw[HRR.out];rfl,?_⟩
  exact aj (aj HGX.out (.inr HBW.out) _) (.inr HBW.out) _
 case pos=>
  by_cases e1:d≤9
  case neg=>
   have HRR:Hid (r=lS u d v false):=af (by rw[HR.out];congr 1;simp only[Bool.and_eq_false_iff,decide_eq_false_iff_not];omega)
   go_wp2_with fail
   refine bodyPost_ret (dS Tryz.results98 rfl (ah (ah HBLK.out _ _) _ _) Tryz.underlying107 rfl (by kernel_rfl) rfl rfl) rfl ⟨by rw[HRR.out];rfl,?_⟩
   exact aj (aj HGX.out (.inr HBW.out) _) (.inr HBW.out) _
  case pos=>
   by_cases e2:v≤9
   case neg=>
    have HRR:Hid (r=lS u d v false):=af (by rw[HR.out];congr 1;simp only[Bool.and_eq_false_iff,decide_eq_false_iff_not];omega)
    go_wp2_with fail
    refine bodyPost_ret (dS Tryz.results98 rfl (ah (ah HBLK.out _ _) _ _) Tryz.underlying107 rfl (by kernel_rfl) rfl rfl) rfl ⟨by rw[HRR.out];rfl,?_⟩
    exact aj (aj HGX.out (.inr HBW.out) _) (.inr HBW.out) _
   case pos=>
    by_cases e3:0≤v
    case neg=>
     have HRR:Hid (r=lS u d v false):=af (by rw[HR.out];congr 1;simp only[Bool.and_eq_false_iff,decide_eq_false_iff_not];omega)
     go_wp2_with fail
     refine bodyPost_ret (dS Tryz.results98 rfl (ah (ah HBLK.out _ _) _ _) Tryz.underlying107 rfl (by kernel_rfl) rfl rfl) rfl ⟨by rw[HRR.out];rfl,?_⟩
     exact aj (aj HGX.out (.inr HBW.out) _) (.inr HBW.out) _
    case pos=>
     have HRR:Hid (r=lS u d v true):=af (by rw[HR.out];congr 1;simp only[Bool.and_eq_true,decide_eq_true_eq];omega)
     have hcv:=run_convert_bytes_arg (P:=Tryz.prog) (w2.alloc (.cells #[.int .u8 c,.int .u8 (48+d)] 5)) 160 5 Tryz.underlying160 Tryz.underlying5 w2.heap.size 0 2 2 [c,48+d] rfl (by
      intro i hi
      rw[World.cell?_alloc_at _ _ _ _ rfl]
      match i,hi with
      |0,_=>rfl
      |1,_=>rfl) 9 Tryz.underlying9
     have HCC:=af hc
     clear hc
     have hbs:=HBS.out
     go_wp2_with fail
     refine bodyPost_ret (dS Tryz.results98 rfl ((Below.heap_alloc _ _ _ (by simpa using HBS.out)).trans (ah (ah HBLK.out _ _) _ _)) Tryz.underlying107 rfl (by kernel_rfl) rfl rfl) rfl ⟨by rw[HRR.out];unfold lS;rw[←HCC.out];rfl,?_⟩
     exact ab (aj (aj HGX.out (.inr HBW.out) _) (.inr HBW.out) _) _
theorem zt (a0 a1 a2 a3 d v:Int)(u:ByteArray)(w:World)(hu:3≤u.size)(hul:u.size≤400)(h0:bt u 0=43)(hs:3<u.size)(ht:fe (bt u 3)=false)(hd0:-2≤d)(hd1:d≤10)(hv0:-2≤v)(hv1:v≤10)
  (H1:Hid (∀ W,Calls Tryz.prog 121 #[.agg #[.int .i64 a0,.int .i64 a1,.int .i64 a2,.int .i64 a3],.string (u.extract 2 3)] W fun r w'=>r=.returned (.int .i64 d)∧W.grownBy w' none))
  (H2:Hid (∀ W,Calls Tryz.prog 121 #[.agg #[.int .i64 a0,.int .i64 a1,.int .i64 a2,.int .i64 a3],.string (u.extract 3 u.size)] W fun r w'=>r=.returned (.int .i64 v)∧W.grownBy w' none)) :
  Calls Tryz.prog 98 #[.agg #[.int .i64 a0,.int .i64 a1,.int .i64 a2,.int .i64 a3],.string u] w fun r w'=>r=.returned (lS u d v (decide (0≤d)&&decide (d<10)&&decide (0≤v)&&decide (v<10)))∧w.grownBy w' none:=by
 have s0:0<u.size:=by omega
 have s1:1<u.size:=by omega
 have u0:((u[0]'s0).toNat:Int)=43:=by rw[←h0,bh s0]
 obtain⟨c,hc⟩:∃ c,c=bt u 1:=⟨_,rfl⟩
 have hc0:0≤c∧c≤255:=by rw[hc];exact bU u 1
 have u1:((u[1]'s1).toNat:Int)=c:=by rw[hc,bh s1]
 have qd:=th hu
 obtain⟨r,hr⟩:∃ r,r=lS u d v (decide (0≤d)&&decide (d<10)&&decide (0≤v)&&decide (v<10)):=⟨_,rfl⟩
 rw[←hr]
 have HR:=af hr
 clear h0 hr
 have u3:((u[3]'hs).toNat:Int)=bt u 3:=by rw[bh hs]
 obtain⟨t,hht⟩:∃ t,t=bt u 3:=⟨_,rfl⟩
 rw[←hht] at u3 ht
 have HT:=af (fun W=>by have h:=na t W (by rw[hht];exact (bU u 3).1) (by rw[hht];exact (bU u 3).2);rw[ht] at h;exact h)
 clear hht ht
 go_enter Tryz.func98,Tryz.ntmps98
 go_wp2_with fail
 go_at_call 120
 refine (HT.out _).mono ?_
 rintro e w' ⟨rfl,rfl⟩
 go_wp2_with fail
 generalize hW0:World.alloc _ _=W0
 have HW0:Hid (w.grownBy W0 none∧W0.heap[w.heap.size]?=some (.cells #[.int .i64 a0,.int .i64 a1,.int .i64 a2,.int .i64 a3] 134 (0,0))∧W0.heap[w.heap.size+1]?=some (.cells #[.string ⟨#[]⟩,.int .i64 0] 107 (0,0))∧w.heap.size+1<W0.heap.size):=af (by
  rw[←hW0]
  exact⟨ab (ab (ag _ _) _) _,(Below.heap_alloc _ _ _ (by simp)).trans (heap_alloc_new w _),gG (by simp),by simp⟩)
 clear hW0
 have k0:W0.cell? ⟨w.heap.size,0,none⟩=some (.int .i64 a0):=by rw[cell_of_row _ _ _ _ _ _ HW0.out.2.1];rfl
 have k1:W0.cell? ⟨w.heap.size,1,none⟩=some (.int .i64 a1):=by rw[cell_of_row _ _ _ _ _ _ HW0.out.2.1];rfl
 have k2:W0.cell? ⟨w.heap.size,2,none⟩=some (.int .i64 a2):=by rw[cell_of_row _ _ _ _ _ _ HW0.out.2.1];rfl
 have k3:W0.cell? ⟨w.heap.size,3,none⟩=some (.int .i64 a3):=by rw[cell_of_row _ _ _ _ _ _ HW0.out.2.1];rfl
 generalize hb:w.heap.size=b at k0 k1 k2 k3 ⊢
 go_region_held3 (fun W=>W.cell? ⟨b,0,none⟩=some (.int .i64 a0)∧W.cell? ⟨b,1,none⟩=some (.int .i64 a1)∧W.cell? ⟨b,2,none⟩=some (.int .i64 a2)∧W.cell? ⟨b,3,none⟩=some (.int .i64 a3)) (first|(with_reducible exact⟨m0,m1,m2,m3⟩)|(simp only[World.cell?_drew];with_reducible exact⟨k0,k1,k2,k3⟩)) (first
  |(go_at_call 121
    refine (H1.out _).mono ?_
    rintro e w1 ⟨rfl,hgx⟩
    have hfr:Fr [] W0 w1:=(ar (Fr.refl [] W0)).trans (aK hgx)
    have m0:=aE hfr k0
    have m1:=aE hfr k1
    have m2:=aE hfr k2
    have m3:=aE hfr k3
    have HF1:Hid (Fr [] W0 w1):=af (hfr)
    clear hfr hgx))
 go_wp2_with fail
 go_region_held3 (fun W=>W.cell? ⟨b,0,none⟩=some (.int .i64 a0)∧W.cell? ⟨b,1,none⟩=some (.int .i64 a1)∧W.cell? ⟨b,2,none⟩=some (.int .i64 a2)∧W.cell? ⟨b,3,none⟩=some (.int .i64 a3)) (first|(with_reducible exact⟨p0,p1,p2,p3⟩)|(simp only[World.cell?_drew];with_reducible exact⟨m0,m1,m2,m3⟩)) (first
  |(go_at_call 121
    refine (H2.out _).mono ?_
    rintro e w2 ⟨rfl,hgx⟩
    have hfr:Fr [] w1 w2:=(ar (Fr.refl [] w1)).trans (aK hgx)
    have p0:=aE hfr m0
    have p1:=aE hfr m1
    have p2:=aE hfr m2
    have p3:=aE hfr m3
    have HF:Hid (Fr [] W0 w2):=af (HF1.out.trans hfr)
    clear hfr hgx))
 have HGX:Hid (w.grownBy w2 none):=af (ae HW0.out.1 (bG HF.out))
 have hblk:w2.heap[b+1]?=some (.cells #[.string ⟨#[]⟩,.int .i64 0] 107 (0,0)):=by rw[←hb];exact (HF.out.block _ HW0.out.2.2.2 (by simp)).trans HW0.out.2.2.1
 have hbs:b+1<w2.heap.size:=by rw[←hb];exact Nat.lt_of_lt_of_le HW0.out.2.2.2 HF.out.size
 have hbw:w.heap.size≤b+1:=by omega
 have r0:w2.cell? ⟨b+1,0,none⟩=some (.string ⟨#[]⟩):=by rw[cell_of_row _ _ _ _ _ _ hblk];rfl
 have r1:w2.cell? ⟨b+1,1,none⟩=some (.int .i64 0):=by rw[cell_of_row _ _ _ _ _ _ hblk];rfl
 have z0:=ai hblk 0
 have z1:=ai hblk 1
 have HBLK:=af hblk
 have HBS:=af hbs
 have HBW:=af hbw
 have HHB:=af hb
 clear hblk hbs hbw hb
 by_cases e0:0≤d
 case neg=>
  have HRR:Hid (r=lS u d v false):=af (by rw[HR.out];congr 1;simp only[Bool.and_eq_false_iff,decide_eq_false_iff_not];omega)
  go_wp2_with fail
  refine bodyPost_ret (dS Tryz.results98 rfl (ah (ah HBLK.out _ _) _ _) Tryz.underlying107 rfl (by kernel_rfl) rfl rfl) rfl ⟨by rw[HRR.out];rfl,?_⟩
  exact aj (aj HGX.out (.inr HBW.out) _) (.inr HBW.out) _
 case pos=>
  by_cases e1:d≤9
  case neg=>
   have HRR:Hid (r=lS u d v false):=af (by rw[HR.out];congr 1;simp only[Bool.and_eq_false_iff,decide_eq_false_iff_not];omega)
   go_wp2_with fail
   refine bodyPost_ret (dS Tryz.results98 rfl (ah (ah HBLK.out _ _) _ _) Tryz.underlying107 rfl (by kernel_rfl) rfl rfl) rfl ⟨by rw[HRR.out];rfl,?_⟩
   exact aj (aj HGX.out (.inr HBW.out) _) (.inr HBW.out) _
  case pos=>
   by_cases e2:v≤9
   case neg=>
    have HRR:Hid (r=lS u d v false):=af (by rw[HR.out];congr 1;simp only[Bool.and_eq_false_iff,decide_eq_false_iff_not];omega)
    go_wp2_with fail
    refine bodyPost_ret (dS Tryz.results98 rfl (ah (ah HBLK.out _ _) _ _) Tryz.underlying107 rfl (by kernel_rfl) rfl rfl) rfl ⟨by rw[HRR.out];rfl,?_⟩
    exact aj (aj HGX.out (.inr HBW.out) _) (.inr HBW.out) _
   case pos=>
    by_cases e3:0≤v
    case neg=>
     have HRR:Hid (r=lS u d v false):=af (by rw[HR.out];congr 1;simp only[Bool.and_eq_false_iff,decide_eq_false_iff_not];omega)
     go_wp2_with fail
     refine bodyPost_ret (dS Tryz.results98 rfl (ah (ah HBLK.out _ _) _ _) Tryz.underlying107 rfl (by kernel_rfl) rfl rfl) rfl ⟨by rw[HRR.out];rfl,?_⟩
     exact aj (aj HGX.out (.inr HBW.out) _) (.inr HBW.out) _
    case pos=>
     have HRR:Hid (r=lS u d v true):=af (by rw[HR.out];congr 1;simp only[Bool.and_eq_true,decide_eq_true_eq];omega)
     have hcv:=run_convert_bytes_arg (P:=Tryz.prog) (w2.alloc (.cells #[.int .u8 c,.int .u8 (48+d)] 5)) 160 5 Tryz.underlying160 Tryz.underlying5 w2.heap.size 0 2 2 [c,48+d] rfl (by
      intro i hi
      rw[World.cell?_alloc_at _ _ _ _ rfl]
      match i,hi with
      |0,_=>rfl
      |1,_=>rfl) 9 Tryz.underlying9
     have HCC:=af hc
     clear hc
     have hbs:=HBS.out
     go_wp2_with fail
     refine bodyPost_ret (dS Tryz.results98 rfl ((Below.heap_alloc _ _ _ (by simpa using HBS.out)).trans (ah (ah HBLK.out _ _) _ _)) Tryz.underlying107 rfl (by kernel_rfl) rfl rfl) rfl ⟨by rw[HRR.out];unfold lS;rw[←HCC.out];rfl,?_⟩
     exact ab (aj (aj HGX.out (.inr HBW.out) _) (.inr HBW.out) _) _
end Go.Proofs.YthlhbjnkohinmaaGreat
