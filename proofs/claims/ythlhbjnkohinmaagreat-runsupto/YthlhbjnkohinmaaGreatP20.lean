import Derived.Test.YthlhbjnkohinmaaGreatP19
import Derived.Test.YthlhbjnkohinmaaGreatP16
import Derived.Test.YthlhbjnkohinmaaGreatP11
import Derived.Test.YthlhbjnkohinmaaGreatP07
namespace Go.Proofs.YthlhbjnkohinmaaGreat
set_option maxRecDepth 100000
set_option maxHeartbeats 8000000
open Go.RowKit
def kD (com:List (List Wr)) (S:br) (c:ByteArray):ByteArray:=match bd c S.wr with
 |some k=>⟨#[32,119]⟩++gJ k
 |none=>⟨#[32,118]⟩++gJ (dK com c S.snap.toNat).2.toNat
def i8 (com:List (List Wr)) (S:br) (i:In):ByteArray:=i.facts.foldl (fun t q=>t++kD com S (aw q.1)) (fN i)
theorem FA {com:List (List Wr)} {S:br} {c:ByteArray} {n:Nat} (h:eQ S.wr c=n):kD com S c=⟨#[32,119]⟩++gJ n:=by
 unfold eQ at h
 unfold kD
 cases hl:bd c S.wr with
 |none=>rw[hl] at h;simp only at h;omega
 |some k=>
  rw[hl] at h
  simp only at h
  have:k=n:=by omega
  rw[this]
theorem FN {com:List (List Wr)} {S:br} {c:ByteArray} (h:eQ S.wr c<0):kD com S c=⟨#[32,118]⟩++gJ (dK com c S.snap.toNat).2.toNat:=by
 unfold eQ at h
 unfold kD
 cases hl:bd c S.wr with
 |none=>rfl
 |some k=>rw[hl] at h;simp only at h;omega
theorem yr (y:Nat) (com:List (List Wr)) (S:br) (p:Value) (a:Option Addr) (cp:Nat) (cs:List Value) (fc fp:List Nat) (i:In) (w:World)
  (hE:im y com S p a cp cs fc fp w) (hk:oK com S) (hf:i.facts.length≤100) (hr9:i.rule≤9) :
  Calls Tryz.prog 68 #[.pointer (some ⟨y,0,none⟩),p,ep i] w fun e w'=>e=.returned (.string (i8 com S i))∧w.grownBy w' none:=by
 have hcl:=hk.comLen
 have hwl:=hk.wrLen
 have HCE:=af (oB i.facts)
 have HKS:Hid (∀ j (hj:j<i.facts.length),(i.facts.take (j+1)).foldl (fun t q=>t++kD com S (aw q.1)) (fN i)=(i.facts.take j).foldl (fun t q=>t++kD com S (aw q.1)) (fN i)++kD com S (aw i.facts[j].1)):=af (fun j hj=>by
  rw[List.take_succ_eq_append_getElem hj,List.foldl_append]
  rfl)
 have HKW:Hid (i8 com S i=(i.facts.take i.facts.length).foldl (fun t q=>t++kD com S (aw q.1)) (fN i)):=af (by rw[List.take_length];rfl)
 obtain⟨res,hres⟩:∃ res,res=i8 com S i:=⟨_,rfl⟩
 rw[←hres] at HKW ⊢
 obtain⟨g1,a1,m1,c1,a2,m2,c2,rfl,hb1,ho1,ho2,_⟩:=hE.ses.open
 have HWR:=af (fun W=>ow i W hr9 hf)
 have HLA:Hid (∀ (c:ByteArray) (W:World),w.grownBy W none→Calls Tryz.prog 87 #[.slice a1 m1 c1,.string c] W fun e w'=>e=.returned (.int .i64 (eQ S.wr c))∧w'=W):=af (fun c W hW=>nm S.wr c a1 m1 c1 0 W (by omega) (aq ho1 hW (fun g hg=>by cases hg)))
 obtain⟨st,hst⟩:∃ st:Nat,S.snap=st:=⟨S.snap.toNat,by have:=hk.snap;omega⟩
 have hstl:st≤com.length:=by have:=hk.snapLe;omega
 have HAT:Hid (∀ (c:ByteArray) (W:World),w.grownBy W none→Calls Tryz.prog 59 #[.pointer (some ⟨y,0,none⟩),.string c,.int .i64 st] W fun e w'=>e=.returned (.tuple #[.int .i64 (dK com c st).1,.int .i64 (dK com c st).2])∧w'=W):=af (fun c W hW=>by
  have h:=hE.kept hW
  exact tK y com cs fc c st a _ cp W h.cell h.row h.com hstl (by omega) hk.each)
 have HBD:=af (fun c=>nS com c st)
 have HLB:=af (DN S.wr)
 have HB1:Hid (∀ W,w.grownBy W none→W.cell? ⟨g1,1,none⟩=some (.int .i64 st)∧W.cell? ⟨g1,2,none⟩=some (.slice a1 m1 c1)):=af (fun W hW=>by
  have hb:=(hW.block _ (lt_of_block hb1) (by simp)).trans hb1
  exact⟨by rw[cell_of_row _ _ _ _ _ _ hb,←hst];rfl,by rw[cell_of_row _ _ _ _ _ _ hb];rfl⟩)
 have hg1l:=lt_of_block hb1
 have HSZ:=af (fA i.facts)
 have hws:(fN i).size≤301:=by
  unfold fN
  rw[ByteArray.size_append,fA]
  have:(strOfNums [48+(i.rule:Int)]).size=1:=rfl
  omega
 obtain⟨wt,hwt⟩:∃ wt,wt=fN i:=⟨_,rfl⟩
 rw[←hwt] at HWR hws HKS HKW
 unfold ep at HWR ⊢
 obtain⟨G,hG⟩:∃ G,G=i.facts:=⟨_,rfl⟩
 rw[←hG] at hf HSZ HWR HCE HKW ⊢
 have HKS2:Hid (∀ j (hj:j<G.length),(G.take (j+1)).foldl (fun t q=>t++kD com S (aw q.1)) wt=(G.take j).foldl (fun t q=>t++kD com S (aw q.1)) wt++kD com S (aw G[j].1)):=af (by subst hG;exact HKS.out)
 clear HKS
 obtain⟨ft,hft⟩:∃ ft,ft=bA G:=⟨_,rfl⟩
 rw[←hft] at HSZ HWR HCE ⊢
 have hsz:=HSZ.out
 obtain⟨ru,hru⟩:∃ ru:Int,ru=i.rule:=⟨_,rfl⟩
 rw[←hru] at HWR ⊢
 generalize eI i.env 0=e0 at HWR ⊢
 generalize eI i.env 1=e1 at HWR ⊢
 generalize eI i.env 2=e2 at HWR ⊢
 generalize eI i.env 3=e3 at HWR ⊢
 have HSTN:Hid (S.snap.toNat=st):=af (by omega)
 clear hE hk hG hft hru hwt hb1 ho1 ho2 hst hr9 hres
 go_enter Tryz.func68,Tryz.ntmps68
 go_wp2_with fail
 go_at_call 64
 refine (HWR.out _).mono ?_
 rintro er WA ⟨rfl,hga⟩
 have HWA:Hid (w.grownBy WA none):=af (ae (ab (ag _ _) _) hga)
 have HWB:Hid (WA.cell? ⟨w.heap.size,5,none⟩=some (.string ft)):=af (am hga (cd rfl))
 clear hga
 generalize w.heap.size=b at HWB ⊢
 go_wp2_with fail
 go_loopw [7,8] (fun v t wr=>∃ (j:Nat) (u:ByteArray),j≤G.length∧t=.int .i64 ((j:Int)*3)∧v=.string u∧u.size≤301+22*j∧WA.grownBy wr none∧u=(G.take j).foldl (fun t q=>t++kD com S (aw q.1)) wt) (fun _ t _=>G.length*3 - (intOf t).toNat)
 case atStart=>exact⟨0,wt,by omega,rfl,rfl,by omega,ag _ _,rfl⟩
 case round=>
  obtain⟨j,u,hj,rfl,rfl,hus,hg,hu⟩:=hrel
  have HG:=af hg
  have HU:=af hu
  clear hu
  have d5:=am hg HWB.out
  obtain⟨d1,d2⟩:=HB1.out wr (ae HWA.out hg)
  by_cases hlt:j<G.length
  ·have b1:(j:Int)*3+2<ft.size:=by omega
   have b2:(0:Int)≤(j:Int)*3:=by omega
   obtain⟨ct,hct⟩:∃ ct,ct=ft.extract (j*3) (j*3+2):=⟨_,rfl⟩
   have hx:ft.extract (j*3) (j*3+2)=ct:=hct.symm
   have hcc:ct=aw G[j].1:=by rw[hct];exact HCE.out j hlt
   have HNX:Hid (∀ z,kD com S ct=z→u++z=(G.take (j+1)).foldl (fun t q=>t++kD com S (aw q.1)) wt):=af (fun z hz=>by rw[HKS2.out j hlt,←HU.out,←hcc,hz])
   have HL1:=af (fun n=>HLA.out ct (wr.drewN n) (al (ae HWA.out hg) n))
   have HA2:=af (fun n m=>HAT.out ct ((wr.drewN n).drewN m) (al (al (ae HWA.out hg) n) m))
   have hlb:=HLB.out ct
   have hab:=HBD.out ct
   obtain⟨lr,hlr⟩:∃ lr,lr=eQ S.wr ct:=⟨_,rfl⟩
   obtain⟨v0,hv0⟩:∃ v0,v0=(dK com ct st).1:=⟨_,rfl⟩
   obtain⟨t0,ht0⟩:∃ t0,t0=(dK com ct st).2:=⟨_,rfl⟩
   have HLR:=af hlr
   have HT0:=af ht0
   rw[←hlr] at HL1 hlb
   rw[←hv0,←ht0] at HA2
   rw[←ht0] at hab
   have ej:((j:Int)*3+3)=((j+1:Nat):Int)*3:=by omega
   have HEJ:=af ej
   have c1':(0:Int)≤(j:Int)*3+2:=by omega
   have c2':(j:Int)*3≤(j:Int)*3+2:=by omega
   have c3':(j:Int)*3+2≤ft.size:=by omega
   have c4':IntKind.i64.wrap ((j:Int)*3+2)=(j:Int)*3+2:=Go.IntWalk.i64_in _ (by omega)
   have t1':((j:Int)*3).toNat=j*3:=by omega
   have t2':((j:Int)*3+2).toNat=j*3+2:=by omega
   clear hct hcc hlr hv0 ht0 hg ej hsz
   go_wp2_with fail
   go_quiet ((go_at_call 87;exact Calls.quiet_of_same (HL1.out _)))
   by_cases hl0:0≤lr
   ·obtain⟨ln,hln⟩:∃ ln:Nat,lr=ln:=⟨lr.toNat,by omega⟩
    subst hln
    have HD:=af (fun W=>qK ln W (by omega))
    go_wp2_with fail
    go_at_call 99
    refine (HD.out _).mono ?_
    rintro er w1 ⟨⟨rfl,hdt⟩,hg1⟩
    obtain⟨dt,hdte⟩:∃ dt,dt=gJ ln:=⟨_,rfl⟩
    rw[←hdte] at hdt ⊢
    have HG1:=af hg1
    clear hg1
    have HN2:Hid (u++(⟨#[32,119]⟩:ByteArray)++dt=(G.take (j+1)).foldl (fun t q=>t++kD com S (aw q.1)) wt):=af (by rw[ByteArray.append_assoc,hdte];exact HNX.out _ (FA HLR.out.symm))
    clear hdte
    have hu2:(u++(⟨#[32,119]⟩:ByteArray)).size=u.size+2:=by rw[ByteArray.size_append];rfl
    have HS2:Hid ((u++(⟨#[32,119]⟩:ByteArray)++dt).size≤301+22*(j+1)):=af (by rw[ByteArray.size_append,hu2];omega)
    go_wp2_with fail
    go_roundw
    case rel=>exact⟨j+1,_,by omega,by rw[←HEJ.out],rfl,HS2.out,ae (al HG.out _) HG1.out,HN2.out⟩
    case measure=>simp[intOf];omega
   ·generalize hW1:World.drewN wr _=W1
    have HGW:Hid (WA.grownBy W1 none):=af (by rw[←hW1];exact al HG.out _)
    have f5:W1.cell? ⟨b,5,none⟩=some (.string ft):=by rw[←hW1];exact d5
    have f1:W1.cell? ⟨g1,1,none⟩=some (.int .i64 st):=by rw[←hW1];exact d1
    have HA1:Hid (∀ n,Calls Tryz.prog 59 #[.pointer (some ⟨y,0,none⟩),.string ct,.int .i64 st] (W1.drewN n) fun e w'=>e=.returned (.tuple #[.int .i64 v0,.int .i64 t0])∧w'=W1.drewN n):=af (fun n=>by rw[←hW1];exact HA2.out _ n)
    clear hW1 d5 d1 d2 HA2
    go_wp2_with fail
    go_quiet ((go_at_call 59;exact Calls.quiet_of_same (HA1.out _)))
    obtain⟨ln,hln⟩:∃ ln:Nat,t0=ln:=⟨t0.toNat,by omega⟩
    subst hln
    have HD:=af (fun W=>qK ln W (by omega))
    go_wp2_with fail
    go_at_call 99
    refine (HD.out _).mono ?_
    rintro er w1 ⟨⟨rfl,hdt⟩,hg1⟩
    obtain⟨dt,hdte⟩:∃ dt,dt=gJ ln:=⟨_,rfl⟩
    rw[←hdte] at hdt ⊢
    have HG1:=af hg1
    clear hg1
    have HN2:Hid (u++(⟨#[32,118]⟩:ByteArray)++dt=(G.take (j+1)).foldl (fun t q=>t++kD com S (aw q.1)) wt):=af (by
     rw[ByteArray.append_assoc,hdte]
     refine HNX.out _ ((FN (by rw[←HLR.out];omega)).trans ?_)
     rw[HSTN.out,←HT0.out]
     rfl)
    clear hdte
    have hu2:(u++(⟨#[32,118]⟩:ByteArray)).size=u.size+2:=by rw[ByteArray.size_append];rfl
    have HS2:Hid ((u++(⟨#[32,118]⟩:ByteArray)++dt).size≤301+22*(j+1)):=af (by rw[ByteArray.size_append,hu2];omega)
    go_wp2_with fail
    go_roundw
    case rel=>exact⟨j+1,_,by omega,by rw[←HEJ.out],rfl,HS2.out,ae (al HGW.out _) HG1.out,HN2.out⟩
    case measure=>simp[intOf];omega
  ·have ejl:j=G.length:=by omega
   have HUU:Hid (u=res):=af (by rw[HU.out,HKW.out,ejl])
   clear hg
   go_wp2_with fail
   go_ret
   exact⟨by rw[←HUU.out];rfl,ae HWA.out HG.out⟩
theorem bm {w:World} {o:Obj} {n:Nat} (h:n=w.heap.size):(w.alloc o).heap[n]?=some o:=by subst h;exact heap_alloc_new w o
def dI (e:ff) (n:Nat):Int:=(e n).getD 0
def dB (e:ff) (n:Nat):Bool:=(e n).isSome
def jo (e:ff):Value:=.agg #[.bool (dB e 0),.bool (dB e 1),.bool (dB e 2),.bool (dB e 3),.int .i64 (dI e 0),.int .i64 (dI e 1),.int .i64 (dI e 2),.int .i64 (dI e 3)]
def g8 (w w':World):Prop:=∃ o1 o2 o3 n,w'=(((w.alloc o1).alloc o2).alloc o3).drewN n
theorem FM (e:ff) (n:Nat) (d:Int) (j:Nat):dI (cH e n (some d)) j=if j=n then d else dI e j:=by
 unfold dI cH
 split <;> rfl
theorem FE (e:ff) (n:Nat) (d:Int) (j:Nat):dB (cH e n (some d)) j=if j=n then true else dB e j:=by
 unfold dB cH
 split <;> rfl
theorem vC (b0 b1 b2 b3:Bool) (d0 d1 d2 d3 v x:Int) (w:World) :
  Calls Tryz.prog 151 #[.agg #[.bool b0,.bool b1,.bool b2,.bool b3,.int .i64 d0,.int .i64 d1,.int .i64 d2,.int .i64 d3],.agg #[.int .i64 0,.int .i64 v],.int .i64 x] w fun r w'=>r=.returned (.tuple #[.agg #[.bool b0,.bool b1,.bool b2,.bool b3,.int .i64 d0,.int .i64 d1,.int .i64 d2,.int .i64 d3],.bool true])∧g8 w w':=by
 go_enter Tryz.func151,Tryz.ntmps151
 go_wp2_with fail
 refine bodyPost_ret (aN Tryz.results151 rfl (bm (by simp)) Tryz.underlying174 rfl (by kernel_rfl) rfl) rfl ⟨rfl,?_⟩
 exact⟨_,_,_,0,rfl⟩
theorem zD (b0 b1 b2 b3:Bool) (d0 d1 d2 d3 v x:Int) (w:World) :
  Calls Tryz.prog 151 #[.agg #[.bool b0,.bool b1,.bool b2,.bool b3,.int .i64 d0,.int .i64 d1,.int .i64 d2,.int .i64 d3],.agg #[.int .i64 1,.int .i64 v],.int .i64 x] w fun r w'=>r=.returned (.tuple #[.agg #[.bool b0,.bool b1,.bool b2,.bool b3,.int .i64 d0,.int .i64 d1,.int .i64 d2,.int .i64 d3],.bool (v==x)])∧g8 w w':=by
 go_enter Tryz.func151,Tryz.ntmps151
 go_wp2_with fail
 go_region
 all_goals go_wp2_with fail
 all_goals (refine bodyPost_ret (aN Tryz.results151 rfl (bm (by simp)) Tryz.underlying174 rfl (by kernel_rfl) rfl) rfl ⟨rfl,?_⟩)
 all_goals first
  |exact⟨_,_,_,0,rfl⟩
  |exact⟨_,_,_,1,rfl⟩
theorem wN (b0 b1 b2 b3:Bool) (d0 d1 d2 d3 x:Int) (w:World) (hb:b0=true) :
  Calls Tryz.prog 151 #[.agg #[.bool b0,.bool b1,.bool b2,.bool b3,.int .i64 d0,.int .i64 d1,.int .i64 d2,.int .i64 d3],.agg #[.int .i64 2,.int .i64 0],.int .i64 x] w fun r w'=>r=.returned (.tuple #[.agg #[.bool b0,.bool b1,.bool b2,.bool b3,.int .i64 d0,.int .i64 d1,.int .i64 d2,.int .i64 d3],.bool (d0==x)])∧g8 w w':=by
 subst hb
 go_enter Tryz.func151,Tryz.ntmps151
 go_wp2_with fail
 go_region
 all_goals go_wp2_with fail
 all_goals (refine bodyPost_ret (aN Tryz.results151 rfl (bm (by simp)) Tryz.underlying174 rfl (by kernel_rfl) rfl) rfl ⟨rfl,?_⟩)
 all_goals first
  |exact⟨_,_,_,0,rfl⟩
  |exact⟨_,_,_,1,rfl⟩
theorem xY (b0 b1 b2 b3:Bool) (d0 d1 d2 d3 x:Int) (w:World) (hb:b0=false) :
  Calls Tryz.prog 151 #[.agg #[.bool b0,.bool b1,.bool b2,.bool b3,.int .i64 d0,.int .i64 d1,.int .i64 d2,.int .i64 d3],.agg #[.int .i64 2,.int .i64 0],.int .i64 x] w fun r w'=>r=.returned (.tuple #[.agg #[.bool true,.bool b1,.bool b2,.bool b3,.int .i64 x,.int .i64 d1,.int .i64 d2,.int .i64 d3],.bool true])∧g8 w w':=by
 subst hb
 go_enter Tryz.func151,Tryz.ntmps151
 go_wp2_with fail
 refine bodyPost_ret (aN Tryz.results151 rfl (bm (by simp)) Tryz.underlying174 rfl (by kernel_rfl) rfl) rfl ⟨rfl,?_⟩
 exact⟨_,_,_,0,rfl⟩
theorem xa (b0 b1 b2 b3:Bool) (d0 d1 d2 d3 x:Int) (w:World) (hb:b1=true) :
  Calls Tryz.prog 151 #[.agg #[.bool b0,.bool b1,.bool b2,.bool b3,.int .i64 d0,.int .i64 d1,.int .i64 d2,.int .i64 d3],.agg #[.int .i64 2,.int .i64 1],.int .i64 x] w fun r w'=>r=.returned (.tuple #[.agg #[.bool b0,.bool b1,.bool b2,.bool b3,.int .i64 d0,.int .i64 d1,.int .i64 d2,.int .i64 d3],.bool (d1==x)])∧g8 w w':=by
 subst hb
 go_enter Tryz.func151,Tryz.ntmps151
 go_wp2_with fail
 go_region
 all_goals go_wp2_with fail
 all_goals (refine bodyPost_ret (aN Tryz.results151 rfl (bm (by simp)) Tryz.underlying174 rfl (by kernel_rfl) rfl) rfl ⟨rfl,?_⟩)
 all_goals first
  |exact⟨_,_,_,0,rfl⟩
  |exact⟨_,_,_,1,rfl⟩
theorem yj (b0 b1 b2 b3:Bool) (d0 d1 d2 d3 x:Int) (w:World) (hb:b1=false) :
  Calls Tryz.prog 151 #[.agg #[.bool b0,.bool b1,.bool b2,.bool b3,.int .i64 d0,.int .i64 d1,.int .i64 d2,.int .i64 d3],.agg #[.int .i64 2,.int .i64 1],.int .i64 x] w fun r w'=>r=.returned (.tuple #[.agg #[.bool b0,.bool true,.bool b2,.bool b3,.int .i64 d0,.int .i64 x,.int .i64 d2,.int .i64 d3],.bool true])∧g8 w w':=by
 subst hb
 go_enter Tryz.func151,Tryz.ntmps151
 go_wp2_with fail
 refine bodyPost_ret (aN Tryz.results151 rfl (bm (by simp)) Tryz.underlying174 rfl (by kernel_rfl) rfl) rfl ⟨rfl,?_⟩
 exact⟨_,_,_,0,rfl⟩
theorem wX (b0 b1 b2 b3:Bool) (d0 d1 d2 d3 x:Int) (w:World) (hb:b2=true) :
  Calls Tryz.prog 151 #[.agg #[.bool b0,.bool b1,.bool b2,.bool b3,.int .i64 d0,.int .i64 d1,.int .i64 d2,.int .i64 d3],.agg #[.int .i64 2,.int .i64 2],.int .i64 x] w fun r w'=>r=.returned (.tuple #[.agg #[.bool b0,.bool b1,.bool b2,.bool b3,.int .i64 d0,.int .i64 d1,.int .i64 d2,.int .i64 d3],.bool (d2==x)])∧g8 w w':=by
 subst hb
 go_enter Tryz.func151,Tryz.ntmps151
 go_wp2_with fail
 go_region
 all_goals go_wp2_with fail
 all_goals (refine bodyPost_ret (aN Tryz.results151 rfl (bm (by simp)) Tryz.underlying174 rfl (by kernel_rfl) rfl) rfl ⟨rfl,?_⟩)
 all_goals first
  |exact⟨_,_,_,0,rfl⟩
  |exact⟨_,_,_,1,rfl⟩
theorem xh (b0 b1 b2 b3:Bool) (d0 d1 d2 d3 x:Int) (w:World) (hb:b2=false) :
  Calls Tryz.prog 151 #[.agg #[.bool b0,.bool b1,.bool b2,.bool b3,.int .i64 d0,.int .i64 d1,.int .i64 d2,.int .i64 d3],.agg #[.int .i64 2,.int .i64 2],.int .i64 x] w fun r w'=>r=.returned (.tuple #[.agg #[.bool b0,.bool b1,.bool true,.bool b3,.int .i64 d0,.int .i64 d1,.int .i64 x,.int .i64 d3],.bool true])∧g8 w w':=by
 subst hb
 go_enter Tryz.func151,Tryz.ntmps151
 go_wp2_with fail
 refine bodyPost_ret (aN Tryz.results151 rfl (bm (by simp)) Tryz.underlying174 rfl (by kernel_rfl) rfl) rfl ⟨rfl,?_⟩
 exact⟨_,_,_,0,rfl⟩
theorem xW (b0 b1 b2 b3:Bool) (d0 d1 d2 d3 x:Int) (w:World) (hb:b3=true) :
  Calls Tryz.prog 151 #[.agg #[.bool b0,.bool b1,.bool b2,.bool b3,.int .i64 d0,.int .i64 d1,.int .i64 d2,.int .i64 d3],.agg #[.int .i64 2,.int .i64 3],.int .i64 x] w fun r w'=>r=.returned (.tuple #[.agg #[.bool b0,.bool b1,.bool b2,.bool b3,.int .i64 d0,.int .i64 d1,.int .i64 d2,.int .i64 d3],.bool (d3==x)])∧g8 w w':=by
 subst hb
 go_enter Tryz.func151,Tryz.ntmps151
 go_wp2_with fail
 go_region
 all_goals go_wp2_with fail
 all_goals (refine bodyPost_ret (aN Tryz.results151 rfl (bm (by simp)) Tryz.underlying174 rfl (by kernel_rfl) rfl) rfl ⟨rfl,?_⟩)
 all_goals first
  |exact⟨_,_,_,0,rfl⟩
  |exact⟨_,_,_,1,rfl⟩
theorem xT (b0 b1 b2 b3:Bool) (d0 d1 d2 d3 x:Int) (w:World) (hb:b3=false) :
  Calls Tryz.prog 151 #[.agg #[.bool b0,.bool b1,.bool b2,.bool b3,.int .i64 d0,.int .i64 d1,.int .i64 d2,.int .i64 d3],.agg #[.int .i64 2,.int .i64 3],.int .i64 x] w fun r w'=>r=.returned (.tuple #[.agg #[.bool b0,.bool b1,.bool b2,.bool true,.int .i64 d0,.int .i64 d1,.int .i64 d2,.int .i64 x],.bool true])∧g8 w w':=by
 subst hb
 go_enter Tryz.func151,Tryz.ntmps151
 go_wp2_with fail
 refine bodyPost_ret (aN Tryz.results151 rfl (bm (by simp)) Tryz.underlying174 rfl (by kernel_rfl) rfl) rfl ⟨rfl,?_⟩
 exact⟨_,_,_,0,rfl⟩
def qf (e:ff) (t d:Int):Value:=.tuple #[jo ((jJ e t d).getD e),.bool (jJ e t d).isSome]
theorem Bq {t:Int} (h:c8 t=true):t=95∨bM t=true∨t=119∨t=120∨t=121∨t=122:=by
 by_cases h1:t=95
 ·exact .inl h1
 ·have h2:bc t=true:=by simpa [c8,h1] using h
  cases hd:bM t with
  |true=>exact .inr (.inl rfl)
  |false=>
   have hl:ew t=true:=by simpa [bc,hd] using h2
   simp only[ew,decide_eq_true_eq] at hl
   right;right;omega
theorem nJ (e:ff) (t d:Int) (w:World) (ht:c8 t=true) :
  Calls Tryz.prog 151 #[jo e,.agg #[.int .i64 (dw t),.int .i64 (dC t)],.int .i64 d] w fun r w'=>r=.returned (qf e t d)∧g8 w w':=by
 rcases Bq ht with rfl|hd|hl
 ·have e1:qf e 95 d=.tuple #[jo e,.bool true]:=by simp[qf,jJ]
  rw[e1]
  exact vC _ _ _ _ _ _ _ _ _ d w
 ·have k1:dw t=1:=by simp[dw,hd]
  have k2:dC t=t - 48:=by simp[dC,hd]
  have h95:¬t=95:=by rintro rfl;exact absurd hd (by decide)
  have e1:qf e t d=.tuple #[jo e,.bool (t - 48==d)]:=by
   unfold qf jJ
   rw[if_neg h95,if_pos hd]
   by_cases hvd:t - 48=d
   ·rw[if_pos hvd];simp[hvd]
   ·rw[if_neg hvd];simp[hvd]
  rw[k1,k2,e1]
  exact zD _ _ _ _ _ _ _ _ _ d w
 ·have hnd:bM t=false:=by rcases hl with rfl|rfl|rfl|rfl <;> rfl
  have h95:¬t=95:=by omega
  have k1:dw t=2:=by rcases hl with rfl|rfl|rfl|rfl <;> rfl
  cases hen:e (t - 119).toNat with
  |some v=>
   have e1:qf e t d=.tuple #[jo e,.bool (dI e (t - 119).toNat==d)]:=by
    have hv:dI e (t - 119).toNat=v:=by unfold dI;rw[hen];rfl
    rw[hv]
    unfold qf jJ
    rw[if_neg h95,if_neg (by simp[hnd])]
    simp only[hen]
    by_cases hvd:v=d
    ·rw[if_pos hvd];simp[hvd]
    ·rw[if_neg hvd];simp[hvd]
   have hb:dB e (t - 119).toNat=true:=by unfold dB;rw[hen];rfl
   rw[k1,e1]
   rcases hl with rfl|rfl|rfl|rfl
   ·exact wN _ _ _ _ _ _ _ _ d w hb
   ·exact xa _ _ _ _ _ _ _ _ d w hb
   ·exact wX _ _ _ _ _ _ _ _ d w hb
   ·exact xW _ _ _ _ _ _ _ _ d w hb
  |none=>
   have hgo:jJ e t d=some (cH e (t - 119).toNat (some d)):=by
    unfold jJ
    rw[if_neg h95,if_neg (by simp[hnd])]
    simp only[hen]
   have e1:qf e t d=.tuple #[jo (cH e (t - 119).toNat (some d)),.bool true]:=by unfold qf;rw[hgo];rfl
   have hb:dB e (t - 119).toNat=false:=by unfold dB;rw[hen];rfl
   rw[k1,e1]
   unfold jo
   simp only[FM,FE]
   rcases hl with rfl|rfl|rfl|rfl
   ·exact xY _ _ _ _ _ _ _ _ d w hb
   ·exact yj _ _ _ _ _ _ _ _ d w hb
   ·exact xh _ _ _ _ _ _ _ _ d w hb
   ·exact xT _ _ _ _ _ _ _ _ d w hb
theorem DQ (a0 a1 a2 a3:Bool) (a4 a5 a6 a7:Int) (k c s p1 p2 q1 q2 x0 x1 x2 x3:Int) (w:World) (hc:x0≠c) :
  Calls Tryz.prog 144 #[.agg #[.bool a0,.bool a1,.bool a2,.bool a3,.int .i64 a4,.int .i64 a5,.int .i64 a6,.int .i64 a7],.agg #[.int .i64 k,.int .i64 c,.int .u8 s,.int .i64 p1,.int .i64 p2,.int .i64 q1,.int .i64 q2],.agg #[.int .i64 x0,.int .i64 x1,.int .i64 x2,.int .i64 x3]] w fun r w'=>r=.returned (.tuple #[.agg #[.bool a0,.bool a1,.bool a2,.bool a3,.int .i64 a4,.int .i64 a5,.int .i64 a6,.int .i64 a7],.bool false])∧w.grownBy w' none:=by
 have qc:(x0 != c)=true:=by simpa using hc
 go_enter Tryz.func144,Tryz.ntmps144
 go_wp2_with fail
 refine bodyPost_ret (aN Tryz.results144 rfl (bm (by simp)) Tryz.underlying174 rfl (by kernel_rfl) rfl) rfl ⟨rfl,?_⟩
 exact ab (ab (ab (ab (ag _ _) _) _) _) _
theorem zZ (a0 a1 a2 a3:Bool) (a4 a5 a6 a7:Int) (f0 f1 f2 f3:Bool) (f4 f5 f6 f7:Int) (k c s p1 p2 q1 q2 x1 x2 x3:Int) (w:World)
  (H1:Hid (∀ W,Calls Tryz.prog 151 #[.agg #[.bool a0,.bool a1,.bool a2,.bool a3,.int .i64 a4,.int .i64 a5,.int .i64 a6,.int .i64 a7],.agg #[.int .i64 p1,.int .i64 p2],.int .i64 x1] W fun r w'=>r=.returned (.tuple #[.agg #[.bool f0,.bool f1,.bool f2,.bool f3,.int .i64 f4,.int .i64 f5,.int .i64 f6,.int .i64 f7],.bool false])∧g8 W w')) :
  Calls Tryz.prog 144 #[.agg #[.bool a0,.bool a1,.bool a2,.bool a3,.int .i64 a4,.int .i64 a5,.int .i64 a6,.int .i64 a7],.agg #[.int .i64 k,.int .i64 c,.int .u8 s,.int .i64 p1,.int .i64 p2,.int .i64 q1,.int .i64 q2],.agg #[.int .i64 c,.int .i64 x1,.int .i64 x2,.int .i64 x3]] w fun r w'=>r=.returned (.tuple #[.agg #[.bool a0,.bool a1,.bool a2,.bool a3,.int .i64 a4,.int .i64 a5,.int .i64 a6,.int .i64 a7],.bool false])∧w.grownBy w' none:=by
 have qc:(c != c)=false:=by simp
 have HRB:Hid (∀ o1 o2 o3 n,((((((((w.alloc (.cells #[.bool a0,.bool a1,.bool a2,.bool a3,.int .i64 a4,.int .i64 a5,.int .i64 a6,.int .i64 a7] 174)).alloc (.cells #[.int .i64 k,.int .i64 c,.int .u8 s,.int .i64 p1,.int .i64 p2,.int .i64 q1,.int .i64 q2] 206)).alloc (.cells #[.int .i64 c,.int .i64 x1,.int .i64 x2,.int .i64 x3] 114)).alloc (.cells #[.bool false,.bool false,.bool false,.bool false,.int .i64 0,.int .i64 0,.int .i64 0,.int .i64 0] 174)).alloc o1).alloc o2).alloc o3).drewN n).heap[w.heap.size+1+1+1]?=some (.cells #[.bool false,.bool false,.bool false,.bool false,.int .i64 0,.int .i64 0,.int .i64 0,.int .i64 0] 174 (0,0))):=af (fun o1 o2 o3 n=>by
  show ((((((((w.alloc (.cells #[.bool a0,.bool a1,.bool a2,.bool a3,.int .i64 a4,.int .i64 a5,.int .i64 a6,.int .i64 a7] 174)).alloc (.cells #[.int .i64 k,.int .i64 c,.int .u8 s,.int .i64 p1,.int .i64 p2,.int .i64 q1,.int .i64 q2] 206)).alloc (.cells #[.int .i64 c,.int .i64 x1,.int .i64 x2,.int .i64 x3] 114)).alloc (.cells #[.bool false,.bool false,.bool false,.bool false,.int .i64 0,.int .i64 0,.int .i64 0,.int .i64 0] 174)).alloc o1).alloc o2).alloc o3)).heap[w.heap.size+1+1+1]?=_
  rw[Below.heap_alloc _ _ _ (by first|(simp;done)|(simp;omega)|omega),Below.heap_alloc _ _ _ (by first|(simp;done)|(simp;omega)|omega),Below.heap_alloc _ _ _ (by first|(simp;done)|(simp;omega)|omega)]
  exact bm (by first|rfl|(simp;done)))
 have HLT:Hid (∀ o1 o2 o3 n,w.heap.size+1+1+1<((((((((w.alloc (.cells #[.bool a0,.bool a1,.bool a2,.bool a3,.int .i64 a4,.int .i64 a5,.int .i64 a6,.int .i64 a7] 174)).alloc (.cells #[.int .i64 k,.int .i64 c,.int .u8 s,.int .i64 p1,.int .i64 p2,.int .i64 q1,.int .i64 q2] 206)).alloc (.cells #[.int .i64 c,.int .i64 x1,.int .i64 x2,.int .i64 x3] 114)).alloc (.cells #[.bool false,.bool false,.bool false,.bool false,.int .i64 0,.int .i64 0,.int .i64 0,.int .i64 0] 174)).alloc o1).alloc o2).alloc o3).drewN n).heap.size):=af (fun o1 o2 o3 n=>lt_of_block (HRB.out o1 o2 o3 n))
 go_enter Tryz.func144,Tryz.ntmps144
 go_wp2_with fail
 go_at_call 151
 refine (H1.out _).mono ?_
 rintro e w1 ⟨rfl,o1,o2,o3,n,rfl⟩
 go_wp2_with fail
 refine bodyPost_ret (aN Tryz.results144 rfl ((Below.heap_alloc _ _ _ (lt_of_block (ah (ah (ah (ah (ah (ah (ah (ah (HRB.out o1 o2 o3 n) _ _) _ _) _ _) _ _) _ _) _ _) _ _) _ _))).trans (ah (ah (ah (ah (ah (ah (ah (ah (HRB.out o1 o2 o3 n) _ _) _ _) _ _) _ _) _ _) _ _) _ _) _ _)) Tryz.underlying174 rfl (by kernel_rfl) rfl) rfl ⟨rfl,?_⟩
 exact ab (aj (aj (aj (aj (aj (aj (aj (aj (al (ab (ab (ab (ab (ab (ab (ab (ag _ _) _) _) _) _) _) _) _) n) (.inr (by show w.heap.size≤w.heap.size+1+1+1;omega)) _) (.inr (by show w.heap.size≤w.heap.size+1+1+1;omega)) _) (.inr (by show w.heap.size≤w.heap.size+1+1+1;omega)) _) (.inr (by show w.heap.size≤w.heap.size+1+1+1;omega)) _) (.inr (by show w.heap.size≤w.heap.size+1+1+1;omega)) _) (.inr (by show w.heap.size≤w.heap.size+1+1+1;omega)) _) (.inr (by show w.heap.size≤w.heap.size+1+1+1;omega)) _) (.inr (by show w.heap.size≤w.heap.size+1+1+1;omega)) _) _
theorem Bi (a0 a1 a2 a3:Bool) (a4 a5 a6 a7:Int) (f0 f1 f2 f3:Bool) (f4 f5 f6 f7:Int) (g0 g1 g2 g3:Bool) (g4 g5 g6 g7:Int) (okb:Bool) (k c s p1 p2 q1 q2 x1 x2 x3:Int) (w:World)
  (H1:Hid (∀ W,Calls Tryz.prog 151 #[.agg #[.bool a0,.bool a1,.bool a2,.bool a3,.int .i64 a4,.int .i64 a5,.int .i64 a6,.int .i64 a7],.agg #[.int .i64 p1,.int .i64 p2],.int .i64 x1] W fun r w'=>r=.returned (.tuple #[.agg #[.bool f0,.bool f1,.bool f2,.bool f3,.int .i64 f4,.int .i64 f5,.int .i64 f6,.int .i64 f7],.bool true])∧g8 W w'))
  (H2:Hid (∀ W,Calls Tryz.prog 151 #[.agg #[.bool f0,.bool f1,.bool f2,.bool f3,.int .i64 f4,.int .i64 f5,.int .i64 f6,.int .i64 f7],.agg #[.int .i64 q1,.int .i64 q2],.int .i64 x2] W fun r w'=>r=.returned (.tuple #[.agg #[.bool g0,.bool g1,.bool g2,.bool g3,.int .i64 g4,.int .i64 g5,.int .i64 g6,.int .i64 g7],.bool okb])∧g8 W w')) :
  Calls Tryz.prog 144 #[.agg #[.bool a0,.bool a1,.bool a2,.bool a3,.int .i64 a4,.int .i64 a5,.int .i64 a6,.int .i64 a7],.agg #[.int .i64 k,.int .i64 c,.int .u8 s,.int .i64 p1,.int .i64 p2,.int .i64 q1,.int .i64 q2],.agg #[.int .i64 c,.int .i64 x1,.int .i64 x2,.int .i64 x3]] w fun r w'=>r=.returned (.tuple #[.agg #[.bool g0,.bool g1,.bool g2,.bool g3,.int .i64 g4,.int .i64 g5,.int .i64 g6,.int .i64 g7],.bool okb])∧w.grownBy w' none:=by
 have qc:(c != c)=false:=by simp
 have HRB:Hid (∀ o1 o2 o3 n o4 o5 o6 o7 m,(((((((((((((w.alloc (.cells #[.bool a0,.bool a1,.bool a2,.bool a3,.int .i64 a4,.int .i64 a5,.int .i64 a6,.int .i64 a7] 174)).alloc (.cells #[.int .i64 k,.int .i64 c,.int .u8 s,.int .i64 p1,.int .i64 p2,.int .i64 q1,.int .i64 q2] 206)).alloc (.cells #[.int .i64 c,.int .i64 x1,.int .i64 x2,.int .i64 x3] 114)).alloc (.cells #[.bool false,.bool false,.bool false,.bool false,.int .i64 0,.int .i64 0,.int .i64 0,.int .i64 0] 174)).alloc o1).alloc o2).alloc o3).drewN n).alloc o4).alloc o5).alloc o6).alloc o7).drewN m).heap[w.heap.size+1+1+1]?=some (.cells #[.bool false,.bool false,.bool false,.bool false,.int .i64 0,.int .i64 0,.int .i64 0,.int .i64 0] 174 (0,0))):=af (fun o1 o2 o3 n o4 o5 o6 o7 m=>by
  show ((((((((((((w.alloc (.cells #[.bool a0,.bool a1,.bool a2,.bool a3,.int .i64 a4,.int .i64 a5,.int .i64 a6,.int .i64 a7] 174)).alloc (.cells #[.int .i64 k,.int .i64 c,.int .u8 s,.int .i64 p1,.int .i64 p2,.int .i64 q1,.int .i64 q2] 206)).alloc (.cells #[.int .i64 c,.int .i64 x1,.int .i64 x2,.int .i64 x3] 114)).alloc (.cells #[.bool false,.bool false,.bool false,.bool false,.int .i64 0,.int .i64 0,.int .i64 0,.int .i64 0] 174)).alloc o1).alloc o2).alloc o3).drewN n).alloc o4).alloc o5).alloc o6).alloc o7).heap[w.heap.size+1+1+1]?=_
  rw[Below.heap_alloc _ _ _ (by first|(simp;done)|(simp;omega)|omega),Below.heap_alloc _ _ _ (by first|(simp;done)|(simp;omega)|omega),Below.heap_alloc _ _ _ (by first|(simp;done)|(simp;omega)|omega),Below.heap_alloc _ _ _ (by first|(simp;done)|(simp;omega)|omega)]
  show ((((((((w.alloc (.cells #[.bool a0,.bool a1,.bool a2,.bool a3,.int .i64 a4,.int .i64 a5,.int .i64 a6,.int .i64 a7] 174)).alloc (.cells #[.int .i64 k,.int .i64 c,.int .u8 s,.int .i64 p1,.int .i64 p2,.int .i64 q1,.int .i64 q2] 206)).alloc (.cells #[.int .i64 c,.int .i64 x1,.int .i64 x2,.int .i64 x3] 114)).alloc (.cells #[.bool false,.bool false,.bool false,.bool false,.int .i64 0,.int .i64 0,.int .i64 0,.int .i64 0] 174)).alloc o1).alloc o2).alloc o3)).heap[w.heap.size+1+1+1]?=_
  rw[Below.heap_alloc _ _ _ (by first|(simp;done)|(simp;omega)|omega),Below.heap_alloc _ _ _ (by first|(simp;done)|(simp;omega)|omega),Below.heap_alloc _ _ _ (by first|(simp;done)|(simp;omega)|omega)]
  exact bm (by first|rfl|(simp;done)))
 go_enter Tryz.func144,Tryz.ntmps144
 go_wp2_with fail
 go_at_call 151
 refine (H1.out _).mono ?_
 rintro e w1 ⟨rfl,o1,o2,o3,n,rfl⟩
 go_wp2_with fail
 go_at_call 151
 refine (H2.out _).mono ?_
 rintro e w2 ⟨rfl,o5,o6,o7,m,rfl⟩
 go_wp2_with fail
 refine bodyPost_ret (aN Tryz.results144 rfl (ah (ah (ah (ah (ah (ah (ah (ah (HRB.out o1 o2 o3 n _ o5 o6 o7 m) _ _) _ _) _ _) _ _) _ _) _ _) _ _) _ _) Tryz.underlying174 rfl (by kernel_rfl) rfl) rfl ⟨rfl,?_⟩
 exact (aj (aj (aj (aj (aj (aj (aj (aj (al (ab (ab (ab (ab (al (ab (ab (ab (ab (ab (ab (ab (ag _ _) _) _) _) _) _) _) _) n) _) _) _) _) m) (.inr (by show w.heap.size≤w.heap.size+1+1+1;omega)) _) (.inr (by show w.heap.size≤w.heap.size+1+1+1;omega)) _) (.inr (by show w.heap.size≤w.heap.size+1+1+1;omega)) _) (.inr (by show w.heap.size≤w.heap.size+1+1+1;omega)) _) (.inr (by show w.heap.size≤w.heap.size+1+1+1;omega)) _) (.inr (by show w.heap.size≤w.heap.size+1+1+1;omega)) _) (.inr (by show w.heap.size≤w.heap.size+1+1+1;omega)) _) (.inr (by show w.heap.size≤w.heap.size+1+1+1;omega)) _)
def jk (k c g t1 t2:Int):Value:=.agg #[.int .i64 k,.int .i64 (c - 97),.int .u8 g,.int .i64 (dw t1),.int .i64 (dC t1),.int .i64 (dw t2),.int .i64 (dC t2)]
theorem n9 (e:ff) (k c g t1 t2:Int) (q:au) (w:World) (h1:c8 t1=true) (h2:c8 t2=true) :
  Calls Tryz.prog 144 #[jo e,jk k c g t1 t2,lj q] w fun r w'=>(∃ e',r=.returned (.tuple #[jo e',.bool (fU e c t1 t2 q).isSome])∧∀ e2,fU e c t1 t2 q=some e2→e'=e2)∧w.grownBy w' none:=by
 by_cases hc:c - 97=(q.1:Int) / 10
 ·have hgo:fU e c t1 t2 q=(jJ e t1 ((q.1:Int) % 10)).bind fun e1=>jJ e1 t2 q.2.1:=by unfold fU;rw[if_pos hc]
  cases hg1:jJ e t1 ((q.1:Int) % 10) with
  |none=>
   have hn:fU e c t1 t2 q=none:=by rw[hgo,hg1];rfl
   have H1:Hid (∀ W,Calls Tryz.prog 151 #[jo e,.agg #[.int .i64 (dw t1),.int .i64 (dC t1)],.int .i64 ((q.1:Int) % 10)] W fun r w'=>r=.returned (.tuple #[jo e,.bool false])∧g8 W w'):=af (fun W=>by
    have:=nJ e t1 ((q.1:Int) % 10) W h1
    unfold qf at this
    rw[hg1] at this
    exact this)
   unfold lj jk
   rw[←hc]
   refine (zZ _ _ _ _ _ _ _ _ _ _ _ _ _ _ _ _ k (c - 97) g (dw t1) (dC t1) (dw t2) (dC t2) _ _ _ w H1).mono ?_
   rintro r w' ⟨rfl,hg⟩
   exact⟨⟨e,by rw[hn];rfl,fun e2 h=>by rw[hn] at h;cases h⟩,hg⟩
  |some e1=>
   have hn:fU e c t1 t2 q=jJ e1 t2 q.2.1:=by rw[hgo,hg1];rfl
   have H1:Hid (∀ W,Calls Tryz.prog 151 #[jo e,.agg #[.int .i64 (dw t1),.int .i64 (dC t1)],.int .i64 ((q.1:Int) % 10)] W fun r w'=>r=.returned (.tuple #[jo e1,.bool true])∧g8 W w'):=af (fun W=>by
    have:=nJ e t1 ((q.1:Int) % 10) W h1
    unfold qf at this
    rw[hg1] at this
    exact this)
   have H2:Hid (∀ W,Calls Tryz.prog 151 #[jo e1,.agg #[.int .i64 (dw t2),.int .i64 (dC t2)],.int .i64 q.2.1] W fun r w'=>r=.returned (.tuple #[jo ((jJ e1 t2 q.2.1).getD e1),.bool (jJ e1 t2 q.2.1).isSome])∧g8 W w'):=af (fun W=>nJ e1 t2 q.2.1 W h2)
   unfold lj jk
   rw[←hc]
   refine (Bi _ _ _ _ _ _ _ _ _ _ _ _ _ _ _ _ _ _ _ _ _ _ _ _ _ k (c - 97) g (dw t1) (dC t1) (dw t2) (dC t2) _ _ _ w H1 H2).mono ?_
   rintro r w' ⟨rfl,hg⟩
   refine⟨⟨(jJ e1 t2 q.2.1).getD e1,by rw[hn];rfl,fun e2 h=>?_⟩,hg⟩
   rw[hn] at h
   rw[h];rfl
 ·have hgo:fU e c t1 t2 q=none:=by unfold fU;rw[if_neg hc]
  refine (DQ _ _ _ _ _ _ _ _ k (c - 97) g (dw t1) (dC t1) (dw t2) (dC t2) _ _ _ _ w (fun h=>hc h.symm)).mono ?_
  rintro r w' ⟨rfl,hg⟩
  exact⟨⟨e,by rw[hgo];rfl,fun e2 h=>by rw[hgo] at h;cases h⟩,hg⟩
end Go.Proofs.YthlhbjnkohinmaaGreat
