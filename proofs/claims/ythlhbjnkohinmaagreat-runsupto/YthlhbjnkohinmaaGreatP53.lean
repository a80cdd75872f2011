import Derived.Test.YthlhbjnkohinmaaGreatP51
import Derived.Test.YthlhbjnkohinmaaGreatP52
import Derived.Test.YthlhbjnkohinmaaGreatP47
namespace Go.Proofs.YthlhbjnkohinmaaGreat
set_option maxRecDepth 100000
set_option maxHeartbeats 8000000
open Go.RowKit
theorem cO.frame {A:eZ}{f:List Nat}{w w':World}(h:cO A f w w'):Fr f w w':=by
 obtain⟨_,_,_,_,r⟩:=h
 exact r
theorem cO.fwd {A:eZ}{f:List Nat}{W1 W1' w':World}(hf:Fr [] W1 W1')(h:cO A f W1' w'):cO A f W1 w'∧Fr f W1' w':=⟨h.back hf,h.frame⟩
theorem dm.readD {g x y:Nat}{X:ap}{F:dP}{E:bn}{f1 f2:List Nat}{i:Nat}{w W w1 w1' w':World}(h:dm g x y X F E f1 f2 i w)(hW:Fr [] w W)(h1:cO (bg x X F) f1 W w1)(hf:Fr [] w1 w1')(hq:Fr [] w1' w'):cO (bJ (QD X.src.2.1 X.src.2.2) y E) f2 w1 w'∧Fr f2 w1' w':=by
 have hn2:=h.apart.2.2.2.2.1
 exact⟨⟨f2,h.doc hW h1 (hf.trans hq),hn2,fun _ hx=>.inl hx,(hf.trans hq).mono (fun k hk=>by cases hk)⟩,hq.mono (fun k hk=>by cases hk)⟩
theorem uF (X:ap)(t:Int)(F:dP):cz X (X.swept t) F=F:=by
 funext k
 unfold cz
 rw[if_pos (show ((X.swept t).ses k).num=(X.ses k).num from rfl)]
section
variable {g x y:Nat} {X:ap} {F:dP} {E:bn} {f1 f2:List Nat} {i:Nat} {w:World}
theorem Et (a b c:Int)(s:ByteArray)(h:dm g x y X F E f1 f2 i w):
  Calls Tryz.prog 14 #[.pointer (some ⟨g,0,none⟩),eA 2 a b c s] w fun e w'=>e=.returned (.bool true)∧lj g i (g::(f1++f2)) w w':=by
 obtain⟨hg1,hg2,hd12,hn1,hn2,hl1,hl2⟩:=h.apart
 obtain⟨heq,hgood⟩:=h.good.open
 have hsm:=h.small
 have hwf:=h.good.wf (by omega)
 have hop:=h.good.fit.opened
 have hop2:=h.good.sim.opened
 refine (DD g x y f1 f2 (bg x (a8 X).2 (cz X (a8 X).2 F)) (bJ (QD X.src.2.1 X.src.2.2) y (cG E).2) (cG E).1.1 (cG E).1.2 a b c s w h.pair.block hg1 hg2 hl1 hl2 (af (fun W hW=>?_)) (af (fun W W1 W1' hW h1 hf=>?_))).mono ?_
 ·have:=CA x X F f1 i W (h.grown hW).pair.prog hn1 h.good.fit (by omega)
  rw[heq] at this
  exact this
 ·refine (xn (QD.framed _ _) (QD.within _ _) (h.doc hW h1 hf) hn2 hwf.opnLen (by omega) hwf.comLen).mono ?_
  rintro e w' ⟨rfl,ht⟩
  exact⟨⟨rfl,(cO.fwd hf ht).1⟩,(cO.fwd hf ht).2⟩
 ·rintro e w' ⟨rfl,hb⟩
  exact⟨rfl,h.fin hgood (sD X) hb⟩
theorem FD (a b c:Int)(s:ByteArray)(h:dm g x y X F E f1 f2 i w)(hs63:s.size<9223372036854775808):
  Calls Tryz.prog 14 #[.pointer (some ⟨g,0,none⟩),eA 3 a b c s] w fun e w'=>e=.returned (.bool true)∧lj g i (g::(f1++f2)) w w':=by
 obtain⟨hg1,hg2,hd12,hn1,hn2,hl1,hl2⟩:=h.apart
 obtain⟨heq,hgood⟩:=h.good.put b s
 have hsm:=h.small
 have hwf:=h.good.wf (by omega)
 have hwl:∀ S∈E.opn,(S.wr.length+1)*24≤140737488355328:=fun S hS=>by have:=h.good.wrLen hS;omega
 refine (Fi g x y f1 f2 (bg x (cq X b s).2 (cz X (cq X b s).2 F)) (bJ (QD X.src.2.1 X.src.2.2) y (fB E b s).2) (fB E b s).1 a b c s w h.pair.block hg1 hg2 hl1 hl2 (af (fun W hW=>?_)) (af (fun W W1 W1' hW h1 hf=>?_))).mono ?_
 ·have:=EU x X F f1 i b s W (h.grown hW).pair.prog hn1 h.good.fit (by omega) hs63
  rw[heq] at this
  exact this
 ·refine (DY (QD.framed _ _) (QD.within _ _) b s (h.doc hW h1 hf) hn2 hwf.opnLen hs63 hwl).mono ?_
  rintro e w' ⟨rfl,ht⟩
  exact⟨⟨rfl,(cO.fwd hf ht).1⟩,(cO.fwd hf ht).2⟩
 ·rintro e w' ⟨rfl,hb⟩
  exact⟨rfl,h.fin hgood (uX X b s) hb⟩
theorem C3 (a b c:Int)(s:ByteArray)(h:dm g x y X F E f1 f2 i w)(hs63:s.size<9223372036854775808):
  Calls Tryz.prog 14 #[.pointer (some ⟨g,0,none⟩),eA 4 a b c s] w fun e w'=>e=.returned (.bool true)∧lj g i (g::(f1++f2)) w w':=by
 obtain⟨hg1,hg2,hd12,hn1,hn2,hl1,hl2⟩:=h.apart
 obtain⟨heq,hgood⟩:=h.good.clear b s
 have hsm:=h.small
 have hwf:=h.good.wf (by omega)
 have hwl:∀ S∈E.opn,(S.wr.length+1)*24≤140737488355328:=fun S hS=>by have:=h.good.wrLen hS;omega
 refine (Bu g x y f1 f2 (bg x (aX X b s).2 (cz X (aX X b s).2 F)) (bJ (QD X.src.2.1 X.src.2.2) y (cU E b s).2) (cU E b s).1 a b c s w h.pair.block hg1 hg2 hl1 hl2 (af (fun W hW=>?_)) (af (fun W W1 W1' hW h1 hf=>?_))).mono ?_
 ·have:=zP x X F f1 i b s W (h.grown hW).pair.prog hn1 h.good.fit (by omega) hs63
  rw[heq] at this
  exact this
 ·refine (xk (QD.framed _ _) (QD.within _ _) b s (h.doc hW h1 hf) hn2 hwf.opnLen hs63 hwl).mono ?_
  rintro e w' ⟨rfl,ht⟩
  exact⟨⟨rfl,(cO.fwd hf ht).1⟩,(cO.fwd hf ht).2⟩
 ·rintro e w' ⟨rfl,hb⟩
  exact⟨rfl,h.fin hgood (qD X b s) hb⟩
theorem Fh (a b c:Int)(s:ByteArray)(h:dm g x y X F E f1 f2 i w):
  Calls Tryz.prog 14 #[.pointer (some ⟨g,0,none⟩),eA 5 a b c s] w fun e w'=>e=.returned (.bool true)∧lj g i (g::(f1++f2)) w w':=by
 obtain⟨hg1,hg2,hd12,hn1,hn2,hl1,hl2⟩:=h.apart
 have hsm:=h.small
 have hwf:=h.good.wf (by omega)
 have hview:=h.good.sim.view b
 refine (B8 g x y f1 f2 (bg x X F) (bJ (QD X.src.2.1 X.src.2.2) y E) (fM X b).1 (fM X b).2 a b c s w h.pair.block hg1 hg2 hl1 hl2 (af (fun W hW=>?_)) (af (fun W W1 W1' hW h1 hf=>?_))).mono ?_
 ·exact BS x X F f1 i b W (h.grown hW).pair.prog hn1 h.good.fit (by omega)
 ·refine (AF _ y E f2 b W1' (h.doc hW h1 hf) hwf).mono ?_
  rintro e w' ⟨rfl,hq⟩
  have hd:=h.readD hW h1 hf (aK hq)
  refine⟨⟨?_,hd.1⟩,hd.2⟩
  rw[hview]
  cases dw E.opn b <;> rfl
 ·rintro e w' ⟨rfl,hb⟩
  exact⟨rfl,h.fin (h.good.mono (Nat.le_succ i)) rfl hb⟩
theorem Dq (a b c:Int)(s:ByteArray)(h:dm g x y X F E f1 f2 i w):
  Calls Tryz.prog 14 #[.pointer (some ⟨g,0,none⟩),eA 6 a b c s] w fun e w'=>e=.returned (.bool true)∧lj g i (g::(f1++f2)) w w':=by
 obtain⟨hg1,hg2,hd12,hn1,hn2,hl1,hl2⟩:=h.apart
 obtain⟨heq,hgood⟩:=h.good.abort b
 have hsm:=h.small
 have hwf:=h.good.wf (by omega)
 refine (Av g x y f1 f2 (bg x (aY X b).2 (cz X (aY X b).2 F)) (bJ (QD X.src.2.1 X.src.2.2) y (cV E b).2) (cV E b).1 a b c s w h.pair.block hg1 hg2 hl1 hl2 (af (fun W hW=>?_)) (af (fun W W1 W1' hW h1 hf=>?_))).mono ?_
 ·have:=A0 x X F f1 b W (h.grown hW).pair.prog hn1
  rw[heq] at this
  exact this
 ·refine (w9 (QD.framed _ _) (QD.within _ _) b (h.doc hW h1 hf) hn2 hwf.opnLen).mono ?_
  rintro e w' ⟨rfl,ht⟩
  exact⟨⟨rfl,(cO.fwd hf ht).1⟩,(cO.fwd hf ht).2⟩
 ·rintro e w' ⟨rfl,hb⟩
  exact⟨rfl,h.fin hgood (pl X b) hb⟩
theorem Ab (a b c:Int)(s:ByteArray)(h:dm g x y X F E f1 f2 i w):
  Calls Tryz.prog 15 #[.pointer (some ⟨g,0,none⟩),eA 7 a b c s] w fun e w'=>e=.returned (.bool true)∧lj g i (g::(f1++f2)) w w':=by
 obtain⟨hg1,hg2,hd12,hn1,hn2,hl1,hl2⟩:=h.apart
 obtain⟨heq,hgood⟩:=h.good.commit b
 have hsm:=h.small
 have hwf:=h.good.wf (by omega)
 have hcl:=h.good.comLen
 refine (xe g x y f1 f2 (bg x (bI X b).2 (cz X (bI X b).2 F)) (bJ (QD X.src.2.1 X.src.2.2) y (cK E b).2) (cK E b).1.1 (cK E b).1.2 a b c s w h.pair.block hg1 hg2 hl1 hl2 (af (fun W hW=>?_)) (af (fun W W1 W1' hW h1 hf=>?_))).mono ?_
 ·have:=wG x X F f1 i b W (h.grown hW).pair.prog hn1 h.good.fit (by omega)
  rw[heq] at this
  exact this
 ·refine (te (QD.framed _ _) (QD.within _ _) b (h.doc hW h1 hf) hn2 hwf h.good.room h.good.keptLen (by omega)).mono ?_
  rintro e w' ⟨rfl,ht⟩
  exact⟨⟨rfl,(cO.fwd hf ht).1⟩,(cO.fwd hf ht).2⟩
 ·rintro e w' ⟨rfl,hb⟩
  exact⟨rfl,h.fin hgood (gZ X b).2.2.1 hb⟩
theorem xo (a b c:Int)(s:ByteArray)(h:dm g x y X F E f1 f2 i w):
  Calls Tryz.prog 15 #[.pointer (some ⟨g,0,none⟩),eA 8 a b c s] w fun e w'=>e=.returned (.bool true)∧lj g i (g::(f1++f2)) w w':=by
 obtain⟨hg1,hg2,hd12,hn1,hn2,hl1,hl2⟩:=h.apart
 have hsm:=h.small
 have hmat:=h.good.mat b
 refine (ue g x y f1 f2 (bg x X F) (bJ (QD X.src.2.1 X.src.2.2) y E) (ql X.src.2.1 X.src.2.2 E b).1 (ql X.src.2.1 X.src.2.2 E b).2 a b c s w h.pair.block hg1 hg2 hl1 hl2 (af (fun W hW=>?_)) (af (fun W W1 W1' hW h1 hf=>?_))).mono ?_
 ·have:=uO x X F f1 i b W (h.grown hW).pair.prog hn1 h.good.fit (by omega) h.good.rul.prog
  rw[hmat] at this
  exact this
 ·refine (xE b (h.doc hW h1 hf) h.good (by omega)).mono ?_
  rintro e w' ⟨rfl,hq⟩
  have hd:=h.readD hW h1 hf (aK hq)
  exact⟨⟨rfl,hd.1⟩,hd.2⟩
 ·rintro e w' ⟨rfl,hb⟩
  exact⟨rfl,h.fin (h.good.mono (Nat.le_succ i)) rfl hb⟩
theorem Cx (X:ap)(F:dP)(n c:Int):(gO X F n c).2.1.src=X.src:=by
 unfold gO
 cases aM X n with
 |none=>rfl
 |some k=>
  simp only[]
  split <;> rfl
theorem FC (a b c:Int)(s:ByteArray)(h:dm g x y X F E f1 f2 i w):
  Calls Tryz.prog 15 #[.pointer (some ⟨g,0,none⟩),eA 9 a b c s] w fun e w'=>e=.returned (.bool true)∧lj g i (g::(f1++f2)) w w':=by
 obtain⟨hg1,hg2,hd12,hn1,hn2,hl1,hl2⟩:=h.apart
 obtain⟨heq,hgood⟩:=h.good.run b c
 have hsm:=h.small
 refine (Fb g x y f1 f2 (bg x (gO X F b c).2.1 (gO X F b c).2.2) (bJ (QD X.src.2.1 X.src.2.2) y (jh X.src.2.1 X.src.2.2 E b c).2) (jh X.src.2.1 X.src.2.2 E b c).1.1 (jh X.src.2.1 X.src.2.2 E b c).1.2.1 (jh X.src.2.1 X.src.2.2 E b c).1.2.2 a b c s w h.pair.block hg1 hg2 hl1 hl2 (af (fun W hW=>?_)) (af (fun W W1 W1' hW h1 hf=>?_))).mono ?_
 ·have:=Ew x X F f1 i b c W (h.grown hW).pair.prog hn1 h.good.fit (by omega) h.good.rul.prog
  rw[heq] at this
  exact this
 ·refine (CU b c (h.doc hW h1 hf) hn2 h.good (by omega)).mono ?_
  rintro e w' ⟨rfl,ht⟩
  exact⟨⟨rfl,(cO.fwd hf ht).1⟩,(cO.fwd hf ht).2⟩
 ·rintro e w' ⟨rfl,hb⟩
  exact⟨rfl,h.fin hgood (Cx X F b c) hb⟩
theorem CR (a b c:Int)(s:ByteArray)(h:dm g x y X F E f1 f2 i w):
  Calls Tryz.prog 15 #[.pointer (some ⟨g,0,none⟩),eA 11 a b c s] w fun e w'=>e=.returned (.bool true)∧lj g i (g::(f1++f2)) w w':=by
 obtain⟨hg1,hg2,hd12,hn1,hn2,hl1,hl2⟩:=h.apart
 obtain⟨heq,hgood⟩:=h.good.sweep
 have hsm:=h.small
 have hwf:=h.good.wf (by omega)
 have hkl:=h.good.keptLen
 refine (Ar g x y f1 f2 (bg x (cn X).2 F) (bJ (QD X.src.2.1 X.src.2.2) y (dZ E).2) (dZ E).1 a b c s w h.pair.block hg1 hg2 hl1 hl2 (af (fun W hW=>?_)) (af (fun W W1 W1' hW h1 hf=>?_))).mono ?_
 ·have:=zC x X F f1 i W (h.grown hW).pair.prog hn1 h.good.fit (by omega)
  rw[heq] at this
  have e:cz X (cn X).2 F=F:=uF X _ F
  rw[e] at this
  exact this
 ·refine (qy (QD.framed _ _) (QD.within _ _) (h.doc hW h1 hf) hn2 hwf (by omega)).mono ?_
  rintro e w' ⟨rfl,ht⟩
  exact⟨⟨rfl,(cO.fwd hf ht).1⟩,(cO.fwd hf ht).2⟩
 ·rintro e w' ⟨rfl,hb⟩
  exact⟨rfl,h.fin hgood rfl hb⟩
theorem Ei (a b c:Int)(s:ByteArray)(h:dm g x y X F E f1 f2 i w):
  Calls Tryz.prog 15 #[.pointer (some ⟨g,0,none⟩),eA 10 a b c s] w fun e w'=>e=.returned (.bool true)∧lj g i (g::(f1++f2)) w w':=by
 obtain⟨hg1,hg2,hd12,hn1,hn2,hl1,hl2⟩:=h.apart
 have hsm:=h.small
 have hkl:=h.good.sim.kept.len
 have hdoc:=h.pair.doc
 obtain⟨rv,cv,kv,ov,cs,ps,u1,u2,⟨hb,rfl⟩,⟨u3,u4,_,⟨u5,u6,_,⟨u7,u8,_,⟨u9,u10,⟨hkr,_⟩,_⟩,_⟩,_⟩,_⟩,ef⟩:=hdoc
 obtain⟨ak,mk,ck,rfl⟩:=an hkr
 have emk:=ar hkr
 subst emk
 have hy2:y∈f2:=by rw[ef];simp
 refine (DO g x y f1 (bg x X F) E.kept.length ak ck a b c s w h.pair.block hg1 (by simp[World.cell?,hb]) (hd12 y hy2) (af (fun W hW=>?_))).mono ?_
 ·have:=CI x X F f1 i W (h.grown hW).pair.prog hn1 h.good.fit (by omega)
  rw[hkl] at this
  exact this
 ·rintro e w' ⟨rfl,W,hW,h1⟩
  exact⟨rfl,h.fin (h.good.mono (Nat.le_succ i)) rfl ⟨W,w',hW,h1,(h.readD hW h1 (Fr.refl _ _) (Fr.refl _ _)).1⟩⟩
theorem lj.same (h:dm g x y X F E f1 f2 i w){w':World}(hW:Fr [] w w'):lj g i (g::(f1++f2)) w w':=
 ⟨(X,F,E),⟨_,⟨g,x,y,f1,f2,rfl,h.pair.grown hW,rfl⟩,h.nodup,fun _ hx=>.inl hx,hW.mono (fun k hk=>by cases hk)⟩,h.good.mono (Nat.le_succ i)⟩
theorem wm (k a b c:Int)(s:ByteArray)(h:dm g x y X F E f1 f2 i w)(hs63:s.size<9223372036854775808)(hk:2≤k)(hk2:k≤6):
  Calls Tryz.prog 14 #[.pointer (some ⟨g,0,none⟩),eA k a b c s] w fun e w'=>e=.returned (.bool true)∧lj g i (g::(f1++f2)) w w':=by
 have e:k=2∨k=3∨k=4∨k=5∨k=6:=by omega
 rcases e with rfl|rfl|rfl|rfl|rfl
 ·exact Et a b c s h
 ·exact FD a b c s h hs63
 ·exact C3 a b c s h hs63
 ·exact Fh a b c s h
 ·exact Dq a b c s h
theorem Aw (k a b c:Int)(s:ByteArray)(h:dm g x y X F E f1 f2 i w)(hk:7≤k):
  Calls Tryz.prog 15 #[.pointer (some ⟨g,0,none⟩),eA k a b c s] w fun e w'=>e=.returned (.bool true)∧lj g i (g::(f1++f2)) w w':=by
 by_cases h12:12≤k
 ·refine (DX g k a b c s w h12).mono ?_
  rintro e w' ⟨rfl,hW⟩
  exact⟨rfl,lj.same h hW⟩
 ·have e:k=7∨k=8∨k=9∨k=10∨k=11:=by omega
  rcases e with rfl|rfl|rfl|rfl|rfl
  ·exact Ab a b c s h
  ·exact xo a b c s h
  ·exact FC a b c s h
  ·exact Ei a b c s h
  ·exact CR a b c s h
end
theorem EL.fresh {w:World}{B x:Nat}{r:Ej}{c1:Array Value}(h1:bS w B r.2.1 r.1.1 r.2.2)(hx:w.heap[x]?=some (.cells c1 91 (0,0))):EL r w (ke w B x x):=by
 refine⟨fun b hb=>(gT.mp hb).1,fun w' h=>?_⟩
 refine qE h1 (fun g cs t hb hg t1 _=>h g (gT.mpr ⟨lt_of_block hg,hb,?_,?_⟩))
 ·intro e;subst e;rw[hx] at hg;simp at hg;exact t1 hg.2.symm
 ·intro e;subst e;rw[hx] at hg;simp at hg;exact t1 hg.2.symm
theorem QD.fresh {w:World}{B y:Nat}{s:ByteArray}{rv:Value}{R:List ay}{c2:Array Value}(h1:jz w B s rv R)(hy:w.heap[y]?=some (.cells c2 40 (0,0))):QD s R rv w (ke w B y y):=by
 refine⟨fun b hb=>(gT.mp hb).1,fun w' h=>?_⟩
 refine tq h1 (fun g cs t hb hg _ t2=>h g (gT.mpr ⟨lt_of_block hg,hb,?_,?_⟩))
 ·intro e;subst e;rw[hy] at hg;simp at hg;exact t2 hg.2.symm
 ·intro e;subst e;rw[hy] at hg;simp at hg;exact t2 hg.2.symm
theorem wU {s:ByteArray}{R:List ay}{fr:List Nat}{w:World}{y:Nat}{v:Value}{room:Int}(hq:QD s R v w fr)(hb:w.heap[y]?=some (.cells (qQ v room) 40 (0,0))):bJ (QD s R) y (E0 room) w (y::fr):=
 ⟨v,_,_,_,[],[],[y],fr,⟨hb,rfl⟩,⟨fr,[],hq,⟨[],[],bp.nil _ _ _,⟨[],[],rfl,⟨[],[],bp.nil _ _ _,⟨[],[],bp.nil _ _ _,rfl,rfl⟩,rfl⟩,rfl⟩,rfl⟩,by simp⟩,rfl⟩
theorem vC {w:World}{gx B:Nat}{rv:Value}{rm:Int}{s:ByteArray}{R:List ay}(hx:w.heap[gx]?=some (.cells ((Tryz.zeroCells91.setIfInBounds 0 rv).setIfInBounds 1 (.int .i64 rm)) 91 (0,0)))(hro:bS w B s rv R):bg gx (X0 ((.bool false,rm),s,R)) (fun _=>t8) w (gx::ke w B gx gx):=
 ⟨X0 ((rv,rm),s,R),⟨[gx],ke w B gx gx,xQ (s,R) hx,⟨[],_,⟨fun _ _ _ _=>rfl,rfl⟩,EL.fresh (r:=((rv,rm),s,R)) hro hx,rfl⟩,rfl⟩,rfl⟩
theorem EV (r:Ej)(h:1≤r.1.2∧r.1.2≤999):eU 0 (X0 r):=
 ⟨⟨Int.le_refl 0,Int.le_refl 0⟩,⟨Int.le_refl 0,Int.le_refl 0⟩,fun _ _=>⟨Int.le_refl 0,Int.le_refl 0⟩,fun _ _ _ _ _=>.inl rfl,fun _ _=>⟨Int.le_refl 0,Int.le_refl 0⟩,fun _ _=>⟨Int.le_refl 0,Int.le_refl 0⟩,fun _ _ c v e=>(by cases e),fun _=>EB,fun c p hp=>(by cases hp),(by
   have e:keptN (X0 r) 60=0:=rfl
   rw[e]
   show ((0:Nat):Int)≤r.1.2
   omega),h⟩
theorem vp (i:Nat){rv:Value}{rm:Int}{s:ByteArray}{R:List ay}(hrm:1≤rm∧rm≤999)(hread:cC s 0 0 (some R)):bR i (X0 ((rv,rm),s,R)) (fun _=>t8) (E0 rm):=by
 have hfull:∀ c,dA [] c=[]:=fun c=>rfl
 refine⟨⟨⟨[],?_⟩,⟨0,?_⟩,?_,?_⟩,(EV ((rv,rm),s,R) hrm).mono (Nat.zero_le i),?_,vd hread⟩
 ·refine { opn:=rfl,places:=by simp,lt:=by simp,ses:=by simp,free:=fun k _ _=>rfl,nums:=by simp,opened:=rfl,openedPos:=Int.le_refl 0,numLe:=by simp,snap:=by simp,latest:=rfl,hist:=?_,histS:=?_,histLe:=?_,last:=fun c _=>rfl,room:=rfl,kept:=?_ }
  ·intro c _ t ht
   have:=congrArg Prod.snd (iG [] c t ht)
   rw[gn] at this
   exact this
  ·intro c _ t ht
   exact congrArg Prod.fst (iG [] c t ht)
  ·intro c _ p hp
   have hp':p∈dA [] c:=hp
   rw[hfull] at hp'
   cases hp'
  ·show keptN ((X0 ((rv,rm),s,R)).full []) 60=(List.replicate (sA []) ((0:Int),((ByteArray.empty,0):Wr))).length
   rw[List.length_replicate]
   exact mi _ []
 ·refine⟨Int.le_refl 0,fun S hS=>(by cases hS),fun c _ t _ _=>?_⟩
  show e7 (aN [] t) (aN (dA [] c) t)
  rw[hfull]
  exact .refl _
 ·exact⟨fun c _=>rfl,fun v hv=>(by cases hv),fun v hv=>(by cases hv)⟩
 ·intro S hS
  cases hS
 ·exact⟨fun S hS=>(by cases hS),fun S hS=>(by cases hS),fun l hl=>(by cases hl),fun l hl=>(by cases hl)⟩
def ey (bw:Nat)(Ps:List Pg):eZ:=fun w f=>∃ v ps f2 f3,w.heap[bw]?=some (.cells #[v] 28 (0,0))∧bp 33 1 v Ps.length ps w f2∧aB wB ps Ps w f3∧f=bw::(f2++f3)
theorem ey.framed (bw:Nat)(Ps:List Pg):bU (ey bw Ps):=by
 rintro S w w' f ⟨v,ps,f2,f3,h1,h2,h3,rfl⟩ hf hs
 exact⟨v,ps,f2,f3,(hf.block bw (lt_of_block h1) (hs bw (by simp))).trans h1,bp.framed _ _ _ _ _ h2 hf (fun k hk=>hs k (by simp[hk])),aB.framed wB.framed _ _ h3 hf (fun k hk=>hs k (by simp[hk])),rfl⟩
theorem ey.within (bw:Nat)(Ps:List Pg):bV (ey bw Ps):=by
 rintro w f ⟨v,ps,f2,f3,h1,h2,h3,rfl⟩ k hk
 rcases List.mem_cons.mp hk with rfl|hk
 ·exact lt_of_block h1
 ·rcases List.mem_append.mp hk with hk|hk
  ·exact bp.within _ _ _ _ _ h2 k hk
  ·exact aB.within wB.within _ _ h3 k hk
abbrev uV (i:Nat)(Ps:List Pg):Prop:=∀ q∈Ps,bR i q.1 q.2.1 q.2.2
def zc (bw i n:Nat)(f:List Nat)(w w':World):Prop:=∃ Ps',cO (ey bw Ps') f w w'∧uV (i+1) Ps'∧Ps'.length≤n+1
theorem zc.same {bw i:Nat}{Ps:List Pg}{f:List Nat}{w w':World}(h:ey bw Ps w f)(hn:f.Nodup)(hg:uV i Ps)(hf:Fr [] w w'):zc bw i Ps.length f w w':=
 ⟨Ps,⟨f,ey.framed _ _ h hf (by simp),hn,fun _ hx=>.inl hx,hf.mono (fun k hk=>by cases hk)⟩,fun q hq=>(hg q hq).mono (Nat.le_succ i),Nat.le_succ _⟩
theorem vn {bw g2 gx gy va':Nat}{Ps:List Pg}{i cap:Nat}{v:Value}{ps:List Value}{f2 f3:List Nat}{w w1 w2 w3:World}{ob:Obj}{rv rd:Value}{rm:Int}{s:ByteArray}{R:List ay}
  (h1:w.heap[bw]?=some (.cells #[v] 28 (0,0))) (h2:bp 33 1 v Ps.length ps w f2) (h3:aB wB ps Ps w f3) (hn:(bw::(f2++f3)).Nodup) (hg:uV i Ps)
  (hg01:w.grownBy w1 none) (hg02:w1.grownBy w2 none) (hrm:1≤rm∧rm≤999) (hx:w1.heap[gx]?=some (.cells ((Tryz.zeroCells91.setIfInBounds 0 rv).setIfInBounds 1 (.int .i64 rm)) 91 (0,0))) (hy:w2.heap[gy]?=some (.cells (qQ rd rm) 40 (0,0)))
  (hro:bS w1 w.heap.size s rv R) (hrd:jz w2 w1.heap.size s rd R) (hread:cC s 0 0 (some R)) (hgx:w.heap.size≤gx) (hgy:w1.heap.size≤gy) (hgp:g2=w2.heap.size)
  (ho:w3.ownsRow 0 33 1 (.slice (some ⟨va',0,none⟩) (Ps.length+1) cap) (Ps.length+1) (ps++[.pointer (some ⟨g2,0,none⟩)]))
  (hg3:((w2.alloc (.cells #[.pointer (some ⟨gx,0,none⟩),.pointer (some ⟨gy,0,none⟩)] 44)).alloc ob).grownBy w3 v.ownBlock) (hva:v.ownBlock=some va'∨va'=w2.heap.size+2) :
  zc bw i Ps.length (bw::(f2++f3)) w (w3.setCell ⟨bw,0,none⟩ (.slice (some ⟨va',0,none⟩) (Ps.length+1) cap)):=by
 subst hgp
 have hg12:=ae hg01 hg02
 obtain⟨h2a,rfl⟩:=h2
 have hbl:=lt_of_block h1
 have w2l:∀ k∈v.ownBlock.toList,k<w.heap.size:=bp.within _ _ _ _ _ ⟨h2a,rfl⟩
 have w3l:∀ k∈f3,k<w.heap.size:=aB.within wB.within _ _ h3
 have hsz:=hg12.size
 have hsz1:=hg01.size
 have hsz2:=hg02.size
 have hxl:=lt_of_block hx
 have hyl:=lt_of_block hy
 rw[List.nodup_cons,List.nodup_append] at hn
 obtain⟨nb,n2,n3,nd⟩:=hn
 have hb2:bw∉v.ownBlock.toList:=fun e=>nb (by simp[e])
 have hb3:bw∉f3:=fun e=>nb (by simp[e])
 have fr0:Fr v.ownBlock.toList w w3:=by
  have a1:Fr [] w ((w2.alloc (.cells #[.pointer (some ⟨gx,0,none⟩),.pointer (some ⟨gy,0,none⟩)] 44)).alloc ob):=((aK hg12).alloc _).alloc _
  exact (a1.mono (fun k hk=>by cases hk)).trans (Fr.grown hg3)
 have fr2:Fr v.ownBlock.toList w2 w3:=by
  have a1:Fr [] w2 ((w2.alloc (.cells #[.pointer (some ⟨gx,0,none⟩),.pointer (some ⟨gy,0,none⟩)] 44)).alloc ob):=((Fr.refl [] w2).alloc _).alloc _
  exact (a1.mono (fun k hk=>by cases hk)).trans (Fr.grown hg3)
 have frb:Fr [bw] w3 (w3.setCell ⟨bw,0,none⟩ (.slice (some ⟨va',0,none⟩) (Ps.length+1) cap)):=(Fr.refl [bw] w3).set (.inl (by simp)) _
 have s3:=fr0.size
 have hb3':w3.heap[bw]?=some (.cells #[v] 28 (0,0)):=(fr0.block bw hbl hb2).trans h1
 have hvn:va'≠bw:=by
  rcases hva with h|h
  ·intro e;subst e;exact hb2 (by rw[h];simp)
  ·omega
 have hnew:∀ k,w.heap.size≤k→k<w2.heap.size→w3.heap[k]?=w2.heap[k]?:=fun k hk hk2=>fr2.block k hk2 (fun e=>by have:=w2l k e;omega)
 have hpair:w3.heap[w2.heap.size]?=some (.cells #[.pointer (some ⟨gx,0,none⟩),.pointer (some ⟨gy,0,none⟩)] 44 (0,0)):=by
  have e1:=hg3.block w2.heap.size (by simp;omega) (fun e=>by have:=w2l w2.heap.size (by rw[←e];simp);omega)
  exact e1.trans ((Below.heap_alloc _ _ _ (by simp)).trans (heap_alloc_new w2 _))
 have hsz3:w2.heap.size+1<w3.heap.size:=by
  have:=hg3.size
  simp at this
  omega
 obtain⟨fx,hfx⟩:∃ fx,fx=ke w1 w.heap.size gx gx:=⟨_,rfl⟩
 obtain⟨fy,hfy⟩:∃ fy,fy=ke w2 w1.heap.size gy gy:=⟨_,rfl⟩
 have fxl:∀ k∈fx,w.heap.size≤k∧k<w1.heap.size∧k≠gx:=fun k hk=>by
  rw[hfx] at hk
  have:=gT.mp hk
  exact⟨this.2.1,this.1,this.2.2.1⟩
 have fyl:∀ k∈fy,w1.heap.size≤k∧k<w2.heap.size∧k≠gy:=fun k hk=>by
  rw[hfy] at hk
  have:=gT.mp hk
  exact⟨this.2.1,this.1,this.2.2.1⟩
 have hfr13:Fr v.ownBlock.toList w1 w3:=((aK hg02).mono (fun k hk=>by cases hk)).trans fr2
 have hprog:bg gx (X0 ((.bool false,rm),s,R)) (fun _=>t8) w3 (gx::fx):=by
  have h0:=vC hx hro
  rw[←hfx] at h0
  refine bg.framed _ _ _ h0 hfr13 (fun k hk e=>?_)
  have:=w2l k e
  rcases List.mem_cons.mp hk with h|h
  ·omega
  ·have:=fxl k h;omega
 have hdoc:bJ (QD s R) gy (E0 rm) w3 (gy::fy):=by
  have h0:=wU (QD.fresh hrd hy) hy
  rw[←hfy] at h0
  refine bJ.framed (QD.framed _ _) _ _ h0 fr2 (fun k hk e=>?_)
  have:=w2l k e
  rcases List.mem_cons.mp hk with h|h
  ·omega
  ·have:=fyl k h;omega
 obtain⟨NB,hNB⟩:∃ NB,NB=w2.heap.size::((gx::fx)++(gy::fy)):=⟨_,rfl⟩
 have hP:wB (.pointer (some ⟨w2.heap.size,0,none⟩)) (X0 ((.bool false,rm),s,R),(fun _=>t8),E0 rm) w3 NB:=
  ⟨w2.heap.size,gx,gy,gx::fx,gy::fy,rfl,⟨hpair,hprog,hdoc⟩,hNB⟩
 have NBl:∀ k∈NB,w.heap.size≤k∧k≤w2.heap.size:=fun k hk=>by
  rw[hNB] at hk
  simp only[List.mem_cons,List.mem_append] at hk
  rcases hk with h|(h|h)|(h|h)
  ·omega
  ·omega
  ·have:=fxl k h;omega
  ·omega
  ·have:=fyl k h;omega
 have NBn:NB.Nodup:=by
  rw[hNB,List.nodup_cons]
  refine⟨fun hk=>?_,?_⟩
  ·simp only[List.mem_cons,List.mem_append] at hk
   rcases hk with (h|h)|(h|h)
   ·omega
   ·have:=fxl _ h;omega
   ·omega
   ·have:=fyl _ h;omega
  ·rw[List.nodup_append]
   refine⟨?_,?_,fun p hp q hq e=>?_⟩
   ·rw[List.nodup_cons]
    exact⟨fun e=>(fxl _ e).2.2 rfl,by rw[hfx];exact mQ _ _ _ _⟩
   ·rw[List.nodup_cons]
    exact⟨fun e=>(fyl _ e).2.2 rfl,by rw[hfy];exact mQ _ _ _ _⟩
   ·subst e
    have h1:p<w1.heap.size:=by
     rcases List.mem_cons.mp hp with h|h
     ·omega
     ·exact (fxl _ h).2.1
    have h2:w1.heap.size≤p:=by
     rcases List.mem_cons.mp hq with h|h
     ·omega
     ·exact (fyl _ h).1
    omega
 have hE:aB wB (ps++[.pointer (some ⟨w2.heap.size,0,none⟩)]) (Ps++[(X0 ((.bool false,rm),s,R),(fun _=>t8),E0 rm)]) w3 (f3++NB):=
  aB.snoc hP (aB.framed wB.framed _ _ h3 fr0 (fun k hk e=>nd k e k hk rfl))
 have hW:ey bw (Ps++[(X0 ((.bool false,rm),s,R),(fun _=>t8),E0 rm)]) (w3.setCell ⟨bw,0,none⟩ (.slice (some ⟨va',0,none⟩) (Ps.length+1) cap)) (bw::([va']++(f3++NB))):=by
  refine⟨_,_,[va'],_,one_setCell hb3',⟨?_,rfl⟩,aB.framed wB.framed _ _ hE frb ?_,rfl⟩
  ·simp only[List.length_append,List.length_cons,List.length_nil]
   exact ownsRow_setCell_other ho (by simp[Value.ownBlock,hvn]) _
  ·intro k hk e
   simp at e
   subst e
   rcases List.mem_append.mp hk with hk|hk
   ·exact hb3 hk
   ·have:=NBl k hk;omega
 have hvb:va'∈v.ownBlock.toList∨va'=w2.heap.size+2:=by
  rcases hva with h|h
  ·exact .inl (by rw[h];simp)
  ·exact .inr h
 refine⟨_,⟨_,hW,?_,?_,?_⟩,?_,by simp⟩
 ·rw[List.nodup_cons]
  constructor
  ·intro hm
   simp only[List.singleton_append,List.mem_cons,List.mem_append] at hm
   rcases hm with h|h|h
   ·exact hvn h.symm
   ·exact hb3 h
   ·have:=NBl bw h;omega
  ·simp only[List.singleton_append,List.nodup_cons]
   constructor
   ·intro hm
    rcases List.mem_append.mp hm with h|h
    ·rcases hvb with hv|hv
     ·exact nd va' hv va' h rfl
     ·have:=w3l va' h;omega
    ·have:=NBl va' h
     rcases hvb with hv|hv
     ·have:=w2l va' hv;omega
     ·omega
   ·rw[List.nodup_append]
    refine⟨n3,NBn,?_⟩
    rintro a ha b hb rfl
    have:=w3l a ha
    have:=NBl a hb
    omega
 ·intro k hk
  simp only[List.singleton_append,List.mem_cons,List.mem_append] at hk ⊢
  rcases hk with h|h|h|h
  ·exact .inl (.inl h)
  ·subst h
   rcases hvb with hv|hv
   ·exact .inl (.inr (.inl hv))
   ·exact .inr (by omega)
  ·exact .inl (.inr (.inr h))
  ·exact .inr (NBl k h).1
 ·exact (fr0.mono (fun k hk=>.inl (by simp at hk ⊢;simp[hk]))).trans (frb.mono (fun k hk=>.inl (by simp at hk ⊢;simp[hk])))
 ·intro q hq
  rcases List.mem_append.mp hq with hq|hq
  ·exact (hg q hq).mono (Nat.le_succ i)
  ·simp at hq;subst hq;exact vp _ hrm hread
theorem AA (bw i:Nat)(Ps:List Pg)(f:List Nat)(s:ByteArray)(rm:Int)(w:World)(hI:ey bw Ps w f)(hn:f.Nodup)(hg:uV i Ps)(hs:s.size≤maxLen)(hl:(Ps.length+1)*8≤140737488355328):
  Calls Tryz.prog 12 #[.pointer (some ⟨bw,0,none⟩),.string s,.int .i64 rm] w fun e w'=>e=.returned (.bool true)∧zc bw i Ps.length f w w':=by
 obtain⟨i0,hi0,hz0,hz1,hz2⟩:=info_parts Tryz.info33
 have HSAME:Hid (∀ w',w.grownBy w' none→zc bw i Ps.length f w w'):=af (fun w' hw=>zc.same hI hn hg (aK hw))
 obtain⟨v,ps,f2,f3,h1,h2,h3,rfl⟩:=hI
 have hlb:=lt_of_block h1
 have HCL:=af (fun g2 gx gy va' cap w1 w2 w3 ob rv rd R=>vn (s:=s) (R:=R) (g2:=g2) (gx:=gx) (gy:=gy) (va':=va') (cap:=cap) (w1:=w1) (w2:=w2) (w3:=w3) (ob:=ob) (rv:=rv) (rd:=rd) (rm:=rm) h1 h2 h3 hn hg)
 obtain⟨h2a,rfl⟩:=h2
 have hvb:v.ownBlock≠some bw:=aT h2a h1 (by decide)
 obtain⟨av,mv,cv,rfl⟩:=an h2a
 have em:=ar h2a
 subst em
 have H2:=af h2a
 have H1:=af h1
 clear h1 h2a h3 hn hg
 go_enter Tryz.func12,Tryz.ntmps12
 go_wp2_with fail
 go_at_call 16
 refine (EF s rm w hs).mono ?_
 rintro e w1 ⟨x,p,o,ha,hg1,hcase⟩
 have HA:=af ha
 clear ha
 rcases hcase with ⟨x1,x4,rfl⟩|⟨rfl,hroom,rfl⟩|⟨rfl,r1,r2,g,R,rv,rfl,rfl,hgw,hgb,hro⟩
 ·go_wp2_with fail
  go_at_call 17
  refine (AX s rm _ x p o hs HA.out x1).mono ?_
  rintro e w2 ⟨rfl,hg2⟩
  have q1:(x != x)=false:=by simp
  have q2:(p != p)=false:=by simp
  have q3:(x != 0)=true:=by simp;omega
  have q4:(x==0)=false:=by simp;omega
  have HG:=af (ae hg1 hg2)
  clear hg1 hg2
  go_wp2_with (go_at_call 18;refine (fU _ _).mono ?_;rintro e w' ⟨rfl,rfl⟩)
  go_ret
  exact⟨rfl,HSAME.out _ HG.out⟩
 ·go_wp2_with fail
  go_at_call 17
  refine (xx s rm _ p o hs HA.out hroom).mono ?_
  rintro e w2 ⟨rfl,hg2⟩
  have HG:=af (ae hg1 hg2)
  clear hg1 hg2 hroom
  go_wp2_with (go_at_call 18;refine (fU _ _).mono ?_;rintro e w' ⟨rfl,rfl⟩)
  go_ret
  exact⟨rfl,HSAME.out _ HG.out⟩
 ·have HRO:=af hro
  have HREAD:Hid (cC s 0 0 (some R)):=af (by
   have h0:=HA.out
   rcases h0.zero with ⟨_,hp,_⟩|⟨hp,_⟩
   ·rw[hp] at h0;exact h0
   ·omega)
  clear hro
  go_wp2_with fail
  go_at_call 17
  refine (Dx s rm _ p R hs HA.out r1 r2).mono ?_
  rintro e w2 ⟨g2,rd,rfl,hgw2,hgb2,hro2,hg2⟩
  have HRO2:=af hro2
  clear hro2
  have hsz1:=hg1.size
  have hsz2:=hg2.size
  have hgl:=lt_of_block hgb
  have HG12:=af (ae hg1 hg2)
  have HG1:=af hg1
  have HG2:=af hg2
  have HX:=af hgb
  have HY:=af hgb2
  have b1:=(HG12.out.block bw hlb (by simp)).trans H1.out
  have HO2:=af (aq H2.out HG12.out (fun g hg=>by cases hg))
  have c0:=cell_of_one b1
  have hl2:=lt_of_block b1
  have hbz:bw≠w2.heap.size:=by omega
  have hbz1:bw≠w2.heap.size+1:=by omega
  have hbz2:bw<w2.heap.size+1:=by omega
  have HB1:=af b1
  clear hgb hgb2 hg1 hg2 b1
  go_wp2_with (first|(go_at_call 18;refine (fU _ _).mono ?_;rintro e w' ⟨rfl,rfl⟩)|(at_builtin;refine wpList_append_lies _ rfl (.tmp 49) (.tmp 54) 26 rfl 0 33 i0 (.pointer none) 1 8 Tryz.underlying26 hi0 hz0 hz1 hz2 rfl (by decide) _ _ _ rfl ((HO2.out.alloc _).alloc _) _ 1 1 [.pointer (some ⟨w2.heap.size,0,none⟩)] rfl rfl ?c1 ?c2 (by decide) ?c3 ?c4 (Nat.zero_le _) (w2.heap.size+2) ?c5 ?_))
  case c1=>intro j u hj;exact nu hj
  case c2=>intro u hu;simp at hu;subst hu;rfl
  case c3=>unfold maxLen;omega
  case c4=>exact hl
  case c5=>simp
  ·intro va' cap w3 hown3 hg3 hva hvl
   have hb3:w3.heap[bw]?=some (.cells #[.slice av Ps.length cv] 28 (0,0)):=(hg3.block bw (by simp;omega) (fun e=>hvb e.symm)).trans ((Below.heap_alloc _ _ _ (by simp;omega)).trans ((Below.heap_alloc _ _ _ hl2).trans HB1.out))
   have c3:=cell_of_one hb3
   have f3':=free_of_one hb3
   have HFIN:=af (HCL.out w2.heap.size g g2 va' cap w1 w2 w3 _ rv rd R HG1.out HG2.out ⟨r1,r2⟩ HX.out HY.out HRO.out HRO2.out HREAD.out hgw hgw2 rfl hown3 hg3 hva)
   clear hown3 hg3 hb3 c0
   go_wp2
   go_ret
   exact⟨rfl,HFIN.out⟩
end Go.Proofs.YthlhbjnkohinmaaGreat
