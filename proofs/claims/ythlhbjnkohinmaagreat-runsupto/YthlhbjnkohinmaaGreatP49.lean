import Derived.Test.YthlhbjnkohinmaaGreatP47
import Derived.Test.YthlhbjnkohinmaaGreatP48
namespace Go.Proofs.YthlhbjnkohinmaaGreat
set_option maxRecDepth 100000
set_option maxHeartbeats 8000000
open Go.RowKit
theorem cL.frame {A:eV} {f:List Nat} {w w':World} (h:cL A f w w'):Fr f w w':=by
 obtain⟨_,_,_,_,r⟩:=h
 exact r
theorem cL.fwd {A:eV} {f:List Nat} {W1 W1' w':World} (hf:Fr [] W1 W1') (h:cL A f W1' w'):cL A f W1 w'∧Fr f W1' w':=⟨h.back hf,h.frame⟩
theorem dl.readD {g x y:Nat} {X:ap} {F:dN} {E:bk} {f1 f2:List Nat} {i:Nat} {w W w1 w1' w':World} (h:dl g x y X F E f1 f2 i w) (hW:Fr [] w W) (h1:cL (bh x X F) f1 W w1) (hf:Fr [] w1 w1') (hq:Fr [] w1' w'):cL (bJ (QD X.src.2.1 X.src.2.2) y E) f2 w1 w'∧Fr f2 w1' w':=by
 have hn2:=h.apart.2.2.2.2.1
 exact⟨⟨f2,h.doc hW h1 (hf.trans hq),hn2,fun _ hx=>.inl hx,(hf.trans hq).mono (fun k hk=>by cases hk)⟩,hq.mono (fun k hk=>by cases hk)⟩
theorem tW (X:ap) (t:Int) (F:dN):cy X (X.swept t) F=F:=by
 funext k
 unfold cy
 rw[if_pos (show ((X.swept t).ses k).num=(X.ses k).num from rfl)]
section
variable {g x y:Nat} {X:ap} {F:dN} {E:bk} {f1 f2:List Nat} {i:Nat} {w:World}
theorem D8 (a b c:Int) (s:ByteArray) (h:dl g x y X F E f1 f2 i w) :
  Calls Tryz.prog 14 #[.pointer (some ⟨g,0,none⟩),ex 2 a b c s] w fun e w'=>e=.returned (.bool true)∧lh g i (g::(f1++f2)) w w':=by
 obtain⟨hg1,hg2,hd12,hn1,hn2,hl1,hl2⟩:=h.apart
 obtain⟨heq,hgood⟩:=h.good.open
 have hsm:=h.small
 have hwf:=h.good.wf (by omega)
 have hop:=h.good.fit.opened
 have hop2:=h.good.sim.opened
 refine (C0 g x y f1 f2 (bh x (a8 X).2 (cy X (a8 X).2 F)) (bJ (QD X.src.2.1 X.src.2.2) y (cE E).2) (cE E).1.1 (cE E).1.2 a b c s w h.pair.block hg1 hg2 hl1 hl2 (af (fun W hW=>?_)) (af (fun W W1 W1' hW h1 hf=>?_))).mono ?_
 ·have:=Ca x X F f1 i W (h.grown hW).pair.prog hn1 h.good.fit (by omega)
  rw[heq] at this
  exact this
 ·refine (xR (QD.framed _ _) (QD.within _ _) (h.doc hW h1 hf) hn2 hwf.opnLen (by omega) hwf.comLen).mono ?_
  rintro e w' ⟨rfl,ht⟩
  exact⟨⟨rfl,(cL.fwd hf ht).1⟩,(cL.fwd hf ht).2⟩
 ·rintro e w' ⟨rfl,hb⟩
  exact⟨rfl,h.fin hgood (rP X) hb⟩
theorem Ft (a b c:Int) (s:ByteArray) (h:dl g x y X F E f1 f2 i w) (hs63:s.size<9223372036854775808) :
  Calls Tryz.prog 14 #[.pointer (some ⟨g,0,none⟩),ex 3 a b c s] w fun e w'=>e=.returned (.bool true)∧lh g i (g::(f1++f2)) w w':=by
 obtain⟨hg1,hg2,hd12,hn1,hn2,hl1,hl2⟩:=h.apart
 obtain⟨heq,hgood⟩:=h.good.put b s
 have hsm:=h.small
 have hwf:=h.good.wf (by omega)
 have hwl:∀ S∈E.opn,(S.wr.length+1)*24≤140737488355328:=fun S hS=>by have:=h.good.wrLen hS;omega
 refine (E6 g x y f1 f2 (bh x (cj X b s).2 (cy X (cj X b s).2 F)) (bJ (QD X.src.2.1 X.src.2.2) y (fw E b s).2) (fw E b s).1 a b c s w h.pair.block hg1 hg2 hl1 hl2 (af (fun W hW=>?_)) (af (fun W W1 W1' hW h1 hf=>?_))).mono ?_
 ·have:=E7 x X F f1 i b s W (h.grown hW).pair.prog hn1 h.good.fit (by omega) hs63
  rw[heq] at this
  exact this
 ·refine (Cu (QD.framed _ _) (QD.within _ _) b s (h.doc hW h1 hf) hn2 hwf.opnLen hs63 hwl).mono ?_
  rintro e w' ⟨rfl,ht⟩
  exact⟨⟨rfl,(cL.fwd hf ht).1⟩,(cL.fwd hf ht).2⟩
 ·rintro e w' ⟨rfl,hb⟩
  exact⟨rfl,h.fin hgood (uL X b s) hb⟩
theorem CM (a b c:Int) (s:ByteArray) (h:dl g x y X F E f1 f2 i w) (hs63:s.size<9223372036854775808) :
  Calls Tryz.prog 14 #[.pointer (some ⟨g,0,none⟩),ex 4 a b c s] w fun e w'=>e=.returned (.bool true)∧lh g i (g::(f1++f2)) w w':=by
 obtain⟨hg1,hg2,hd12,hn1,hn2,hl1,hl2⟩:=h.apart
 obtain⟨heq,hgood⟩:=h.good.clear b s
 have hsm:=h.small
 have hwf:=h.good.wf (by omega)
 have hwl:∀ S∈E.opn,(S.wr.length+1)*24≤140737488355328:=fun S hS=>by have:=h.good.wrLen hS;omega
 refine (zG g x y f1 f2 (bh x (aY X b s).2 (cy X (aY X b s).2 F)) (bJ (QD X.src.2.1 X.src.2.2) y (cS E b s).2) (cS E b s).1 a b c s w h.pair.block hg1 hg2 hl1 hl2 (af (fun W hW=>?_)) (af (fun W W1 W1' hW h1 hf=>?_))).mono ?_
 ·have:=Af x X F f1 i b s W (h.grown hW).pair.prog hn1 h.good.fit (by omega) hs63
  rw[heq] at this
  exact this
 ·refine (wD (QD.framed _ _) (QD.within _ _) b s (h.doc hW h1 hf) hn2 hwf.opnLen hs63 hwl).mono ?_
  rintro e w' ⟨rfl,ht⟩
  exact⟨⟨rfl,(cL.fwd hf ht).1⟩,(cL.fwd hf ht).2⟩
 ·rintro e w' ⟨rfl,hb⟩
  exact⟨rfl,h.fin hgood (pi X b s) hb⟩
theorem Ec (a b c:Int) (s:ByteArray) (h:dl g x y X F E f1 f2 i w) :
  Calls Tryz.prog 14 #[.pointer (some ⟨g,0,none⟩),ex 5 a b c s] w fun e w'=>e=.returned (.bool true)∧lh g i (g::(f1++f2)) w w':=by
 obtain⟨hg1,hg2,hd12,hn1,hn2,hl1,hl2⟩:=h.apart
 have hsm:=h.small
 have hwf:=h.good.wf (by omega)
 have hview:=h.good.sim.view b
 refine (Dy g x y f1 f2 (bh x X F) (bJ (QD X.src.2.1 X.src.2.2) y E) (fL X b).1 (fL X b).2 a b c s w h.pair.block hg1 hg2 hl1 hl2 (af (fun W hW=>?_)) (af (fun W W1 W1' hW h1 hf=>?_))).mono ?_
 ·exact Ci x X F f1 i b W (h.grown hW).pair.prog hn1 h.good.fit (by omega)
 ·refine (AF _ y E f2 b W1' (h.doc hW h1 hf) hwf).mono ?_
  rintro e w' ⟨rfl,hq⟩
  have hd:=h.readD hW h1 hf (aJ hq)
  refine⟨⟨?_,hd.1⟩,hd.2⟩
  rw[hview]
  cases dq E.opn b <;> rfl
 ·rintro e w' ⟨rfl,hb⟩
  exact⟨rfl,h.fin (h.good.mono (Nat.le_succ i)) rfl hb⟩
theorem Ck (a b c:Int) (s:ByteArray) (h:dl g x y X F E f1 f2 i w) :
  Calls Tryz.prog 14 #[.pointer (some ⟨g,0,none⟩),ex 6 a b c s] w fun e w'=>e=.returned (.bool true)∧lh g i (g::(f1++f2)) w w':=by
 obtain⟨hg1,hg2,hd12,hn1,hn2,hl1,hl2⟩:=h.apart
 obtain⟨heq,hgood⟩:=h.good.abort b
 have hsm:=h.small
 have hwf:=h.good.wf (by omega)
 refine (zj g x y f1 f2 (bh x (aX X b).2 (cy X (aX X b).2 F)) (bJ (QD X.src.2.1 X.src.2.2) y (cR E b).2) (cR E b).1 a b c s w h.pair.block hg1 hg2 hl1 hl2 (af (fun W hW=>?_)) (af (fun W W1 W1' hW h1 hf=>?_))).mono ?_
 ·have:=AO x X F f1 b W (h.grown hW).pair.prog hn1
  rw[heq] at this
  exact this
 ·refine (wV (QD.framed _ _) (QD.within _ _) b (h.doc hW h1 hf) hn2 hwf.opnLen).mono ?_
  rintro e w' ⟨rfl,ht⟩
  exact⟨⟨rfl,(cL.fwd hf ht).1⟩,(cL.fwd hf ht).2⟩
 ·rintro e w' ⟨rfl,hb⟩
  exact⟨rfl,h.fin hgood (pl X b) hb⟩
theorem BB (a b c:Int) (s:ByteArray) (h:dl g x y X F E f1 f2 i w) :
  Calls Tryz.prog 15 #[.pointer (some ⟨g,0,none⟩),ex 7 a b c s] w fun e w'=>e=.returned (.bool true)∧lh g i (g::(f1++f2)) w w':=by
 obtain⟨hg1,hg2,hd12,hn1,hn2,hl1,hl2⟩:=h.apart
 obtain⟨heq,hgood⟩:=h.good.commit b
 have hsm:=h.small
 have hwf:=h.good.wf (by omega)
 have hcl:=h.good.comLen
 refine (xJ g x y f1 f2 (bh x (bH X b).2 (cy X (bH X b).2 F)) (bJ (QD X.src.2.1 X.src.2.2) y (cJ E b).2) (cJ E b).1.1 (cJ E b).1.2 a b c s w h.pair.block hg1 hg2 hl1 hl2 (af (fun W hW=>?_)) (af (fun W W1 W1' hW h1 hf=>?_))).mono ?_
 ·have:=wZ x X F f1 i b W (h.grown hW).pair.prog hn1 h.good.fit (by omega)
  rw[heq] at this
  exact this
 ·refine (tB (QD.framed _ _) (QD.within _ _) b (h.doc hW h1 hf) hn2 hwf h.good.room h.good.keptLen (by omega)).mono ?_
  rintro e w' ⟨rfl,ht⟩
  exact⟨⟨rfl,(cL.fwd hf ht).1⟩,(cL.fwd hf ht).2⟩
 ·rintro e w' ⟨rfl,hb⟩
  exact⟨rfl,h.fin hgood (gX X b).2.2.1 hb⟩
theorem yd (a b c:Int) (s:ByteArray) (h:dl g x y X F E f1 f2 i w) :
  Calls Tryz.prog 15 #[.pointer (some ⟨g,0,none⟩),ex 8 a b c s] w fun e w'=>e=.returned (.bool true)∧lh g i (g::(f1++f2)) w w':=by
 obtain⟨hg1,hg2,hd12,hn1,hn2,hl1,hl2⟩:=h.apart
 have hsm:=h.small
 have hmat:=h.good.mat b
 refine (vh g x y f1 f2 (bh x X F) (bJ (QD X.src.2.1 X.src.2.2) y E) (qo X.src.2.1 X.src.2.2 E b).1 (qo X.src.2.1 X.src.2.2 E b).2 a b c s w h.pair.block hg1 hg2 hl1 hl2 (af (fun W hW=>?_)) (af (fun W W1 W1' hW h1 hf=>?_))).mono ?_
 ·have:=vd x X F f1 i b W (h.grown hW).pair.prog hn1 h.good.fit (by omega) h.good.rul.prog
  rw[hmat] at this
  exact this
 ·refine (xo b (h.doc hW h1 hf) h.good (by omega)).mono ?_
  rintro e w' ⟨rfl,hq⟩
  have hd:=h.readD hW h1 hf (aJ hq)
  exact⟨⟨rfl,hd.1⟩,hd.2⟩
 ·rintro e w' ⟨rfl,hb⟩
  exact⟨rfl,h.fin (h.good.mono (Nat.le_succ i)) rfl hb⟩
theorem Dw (X:ap) (F:dN) (n c:Int):(gM X F n c).2.1.src=X.src:=by
 unfold gM
 cases aL X n with
 |none=>rfl
 |some k=>
  simp only[]
  split <;> rfl
theorem FI (a b c:Int) (s:ByteArray) (h:dl g x y X F E f1 f2 i w) :
  Calls Tryz.prog 15 #[.pointer (some ⟨g,0,none⟩),ex 9 a b c s] w fun e w'=>e=.returned (.bool true)∧lh g i (g::(f1++f2)) w w':=by
 obtain⟨hg1,hg2,hd12,hn1,hn2,hl1,hl2⟩:=h.apart
 obtain⟨heq,hgood⟩:=h.good.run b c
 have hsm:=h.small
 refine (En g x y f1 f2 (bh x (gM X F b c).2.1 (gM X F b c).2.2) (bJ (QD X.src.2.1 X.src.2.2) y (jl X.src.2.1 X.src.2.2 E b c).2) (jl X.src.2.1 X.src.2.2 E b c).1.1 (jl X.src.2.1 X.src.2.2 E b c).1.2.1 (jl X.src.2.1 X.src.2.2 E b c).1.2.2 a b c s w h.pair.block hg1 hg2 hl1 hl2 (af (fun W hW=>?_)) (af (fun W W1 W1' hW h1 hf=>?_))).mono ?_
 ·have:=EM x X F f1 i b c W (h.grown hW).pair.prog hn1 h.good.fit (by omega) h.good.rul.prog
  rw[heq] at this
  exact this
 ·refine (CC b c (h.doc hW h1 hf) hn2 h.good (by omega)).mono ?_
  rintro e w' ⟨rfl,ht⟩
  exact⟨⟨rfl,(cL.fwd hf ht).1⟩,(cL.fwd hf ht).2⟩
 ·rintro e w' ⟨rfl,hb⟩
  exact⟨rfl,h.fin hgood (Dw X F b c) hb⟩
theorem DS (a b c:Int) (s:ByteArray) (h:dl g x y X F E f1 f2 i w) :
  Calls Tryz.prog 15 #[.pointer (some ⟨g,0,none⟩),ex 11 a b c s] w fun e w'=>e=.returned (.bool true)∧lh g i (g::(f1++f2)) w w':=by
 obtain⟨hg1,hg2,hd12,hn1,hn2,hl1,hl2⟩:=h.apart
 obtain⟨heq,hgood⟩:=h.good.sweep
 have hsm:=h.small
 have hwf:=h.good.wf (by omega)
 have hkl:=h.good.keptLen
 refine (zS g x y f1 f2 (bh x (ch X).2 F) (bJ (QD X.src.2.1 X.src.2.2) y (dT E).2) (dT E).1 a b c s w h.pair.block hg1 hg2 hl1 hl2 (af (fun W hW=>?_)) (af (fun W W1 W1' hW h1 hf=>?_))).mono ?_
 ·have:=AP x X F f1 i W (h.grown hW).pair.prog hn1 h.good.fit (by omega)
  rw[heq] at this
  have e:cy X (ch X).2 F=F:=tW X _ F
  rw[e] at this
  exact this
 ·refine (pZ (QD.framed _ _) (QD.within _ _) (h.doc hW h1 hf) hn2 hwf (by omega)).mono ?_
  rintro e w' ⟨rfl,ht⟩
  exact⟨⟨rfl,(cL.fwd hf ht).1⟩,(cL.fwd hf ht).2⟩
 ·rintro e w' ⟨rfl,hb⟩
  exact⟨rfl,h.fin hgood rfl hb⟩
theorem ET (a b c:Int) (s:ByteArray) (h:dl g x y X F E f1 f2 i w) :
  Calls Tryz.prog 15 #[.pointer (some ⟨g,0,none⟩),ex 10 a b c s] w fun e w'=>e=.returned (.bool true)∧lh g i (g::(f1++f2)) w w':=by
 obtain⟨hg1,hg2,hd12,hn1,hn2,hl1,hl2⟩:=h.apart
 have hsm:=h.small
 have hkl:=h.good.sim.kept.len
 have hdoc:=h.pair.doc
 obtain⟨rv,cv,kv,ov,cs,ps,u1,u2,⟨hb,rfl⟩,⟨u3,u4,_,⟨u5,u6,_,⟨u7,u8,_,⟨u9,u10,⟨hkr,_⟩,_⟩,_⟩,_⟩,_⟩,ef⟩:=hdoc
 obtain⟨ak,mk,ck,rfl⟩:=an hkr
 have emk:=ar hkr
 subst emk
 have hy2:y∈f2:=by rw[ef];simp
 refine (Ds g x y f1 (bh x X F) E.kept.length ak ck a b c s w h.pair.block hg1 (by simp[World.cell?,hb]) (hd12 y hy2) (af (fun W hW=>?_))).mono ?_
 ·have:=DU x X F f1 i W (h.grown hW).pair.prog hn1 h.good.fit (by omega)
  rw[hkl] at this
  exact this
 ·rintro e w' ⟨rfl,W,hW,h1⟩
  exact⟨rfl,h.fin (h.good.mono (Nat.le_succ i)) rfl ⟨W,w',hW,h1,(h.readD hW h1 (Fr.refl _ _) (Fr.refl _ _)).1⟩⟩
theorem lh.same (h:dl g x y X F E f1 f2 i w) {w':World} (hW:Fr [] w w'):lh g i (g::(f1++f2)) w w':=
 ⟨(X,F,E),⟨_,⟨g,x,y,f1,f2,rfl,h.pair.grown hW,rfl⟩,h.nodup,fun _ hx=>.inl hx,hW.mono (fun k hk=>by cases hk)⟩,h.good.mono (Nat.le_succ i)⟩
theorem uk (k a b c:Int) (s:ByteArray) (h:dl g x y X F E f1 f2 i w) (hs63:s.size<9223372036854775808) (hk:2≤k) (hk2:k≤6) :
  Calls Tryz.prog 14 #[.pointer (some ⟨g,0,none⟩),ex k a b c s] w fun e w'=>e=.returned (.bool true)∧lh g i (g::(f1++f2)) w w':=by
 have e:k=2∨k=3∨k=4∨k=5∨k=6:=by omega
 rcases e with rfl|rfl|rfl|rfl|rfl
 ·exact D8 a b c s h
 ·exact Ft a b c s h hs63
 ·exact CM a b c s h hs63
 ·exact Ec a b c s h
 ·exact Ck a b c s h
theorem AH (k a b c:Int) (s:ByteArray) (h:dl g x y X F E f1 f2 i w) (hk:7≤k) :
  Calls Tryz.prog 15 #[.pointer (some ⟨g,0,none⟩),ex k a b c s] w fun e w'=>e=.returned (.bool true)∧lh g i (g::(f1++f2)) w w':=by
 by_cases h12:12≤k
 ·refine (Dh g k a b c s w h12).mono ?_
  rintro e w' ⟨rfl,hW⟩
  exact⟨rfl,lh.same h hW⟩
 ·have e:k=7∨k=8∨k=9∨k=10∨k=11:=by omega
  rcases e with rfl|rfl|rfl|rfl|rfl
  ·exact BB a b c s h
  ·exact yd a b c s h
  ·exact FI a b c s h
  ·exact ET a b c s h
  ·exact DS a b c s h
end
end Go.Proofs.YthlhbjnkohinmaaGreat
