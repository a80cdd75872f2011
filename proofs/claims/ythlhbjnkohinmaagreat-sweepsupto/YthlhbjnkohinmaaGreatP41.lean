import Derived.Test.YthlhbjnkohinmaaGreatP32
import Derived.Laws.StructEq
namespace Go.Proofs.YthlhbjnkohinmaaGreat
set_option maxRecDepth 100000
set_option maxHeartbeats 8000000
open Go.RowKit
def gL (n:Nat):ByteArray:=if h:n<10 then strOfNums [48+(n:Int) % 10] else gL (n / 10)++strOfNums [48+(n:Int) % 10]
def vQ (n:Nat):ByteArray:=if n<10 then ByteArray.empty else gL (n / 10)
theorem uF (n:Nat):gL n=vQ n++strOfNums [48+(n:Int) % 10]:=by
 rw[gL]
 unfold vQ
 split
 ·rw[ByteArray.empty_append]
 ·rfl
theorem zm {k:Nat}(h:10≤k):vQ k=vQ (k / 10)++strOfNums [48+(k:Int) / 10 % 10]:=by
 conv=>lhs;unfold vQ
 rw[if_neg (by omega),uF]
 congr 2
theorem qG (n:Nat)(w:World)(hn:n≤9223372036854775807):
  Calls Tryz.prog 99 #[.int .i64 n] w fun e w'=>(e=.returned (.string (gL n))∧(gL n).size≤20)∧w.grownBy w' none:=by
 have hcv:∀ (W:World) (x:Int),0≤x→x≤255→_:=fun W x (_:0≤x) (_:x≤255)=>run_convert_bytes_arg (P:=Tryz.prog) (W.alloc (.cells #[.int .u8 x] 5)) 160 5 Tryz.underlying160 Tryz.underlying5 W.heap.size 0 1 1 [x] rfl (by
  intro i hi
  rw[World.cell?_alloc_at _ _ _ _ rfl]
  match i,hi with
  |0,_=>rfl) 9 Tryz.underlying9
 have HCV:=af hcv
 clear hcv
 have h0:=HCV.out w (48+(n:Int) % 10) (by omega) (by omega)
 have b0:(48:Int)+(n:Int) % 10≤255:=by omega
 have hs0:(strOfNums [48+(n:Int) % 10]).size=1:=rfl
 have HI:Hid (n<10 ^ 19):=af (by have:(10:Nat) ^ 19=10000000000000000000:=by decide
                                 omega)
 go_enter Tryz.func99,Tryz.ntmps99
 go_wp2_with fail
 go_loopw [3,0] (fun v t wr=>∃ (k m:Nat) (u:ByteArray),t=.int .i64 k∧k≤n∧v=.string u∧u.size+m=20∧k<10 ^ m∧w.grownBy wr none∧vQ k++u=gL n) (fun _ t _=>(intOf t).toNat)
 case atStart=>exact⟨n,19,strOfNums [48+(n:Int) % 10],rfl,Nat.le_refl _,rfl,rfl,HI.out,ab (ag _ _) _,(uF n).symm⟩
 case round=>
  obtain⟨k,m,u,rfl,hkn,rfl,hum,hkm,hg,hdec⟩:=hrel
  have HG:=af hg
  have HDEC:=af hdec
  clear hdec
  by_cases hk10:10≤k
  ·have hm2:2≤m:=by
    apply Classical.byContradiction
    intro h
    have:m=0∨m=1:=by omega
    rcases this with e|e <;> subst e <;> simp at hkm <;> omega
   have h1:=HCV.out wr (48+(k:Int) / 10 % 10) (by omega) (by omega)
   have b1:(48:Int)+(k:Int) / 10 % 10≤255:=by omega
   have b2:(0:Int)≤(k:Int) / 10:=by omega
   have b3:(k:Int) / 10≤9223372036854775807:=by omega
   have hs1:(strOfNums [48+(k:Int) / 10 % 10]).size=1:=rfl
   have hus:u.size≤18:=by omega
   have HK:Hid (k / 10<10 ^ (m - 1)):=af (by
    have e:10 ^ m=10 ^ (m - 1)*10:=by rw[←Nat.pow_succ];congr 1;omega
    rw[e] at hkm
    exact Nat.div_lt_of_lt_mul (by omega))
   have hkI:(10:Int)≤(k:Int):=by omega
   have HS2:Hid ((strOfNums [48+(k:Int) / 10 % 10]++u).size+(m - 1)=20):=af (by rw[ByteArray.size_append,hs1];omega)
   have hdk:((k / 10:Nat):Int)=(k:Int) / 10:=by omega
   have HDK:=af hdk
   obtain⟨nt,hnt⟩:∃ nt,nt=strOfNums [48+(k:Int) / 10 % 10]:=⟨_,rfl⟩
   rw[←hnt] at h1 hs1 HS2
   have hkk:k / 10<k:=by omega
   have HD2:Hid (vQ (k / 10)++(nt++u)=gL n):=af (by rw[hnt,←HDEC.out,zm hk10,ByteArray.append_assoc])
   clear hkm hg hdk hnt
   go_wp2_with fail
   go_roundw
   case rel=>exact⟨k / 10,m - 1,nt++u,by rw[HDK.out],by omega,rfl,HS2.out,HK.out,ab HG.out _,HD2.out⟩
   case measure=>simp[intOf];omega
  ·have hkI:¬(10:Int)≤(k:Int):=by omega
   have HU:Hid (u=gL n):=af (by
    rw[←HDEC.out]
    unfold vQ
    rw[if_pos (by omega),ByteArray.empty_append])
   clear hg hkm
   go_wp2_with fail
   go_ret
   exact⟨⟨by rw[←HU.out];rfl,by rw[←HU.out];omega⟩,HG.out⟩
def kG (com:List (List Wr))(S:br)(c:ByteArray):ByteArray:=match bc c S.wr with
 |some k=>⟨#[32,119]⟩++gL k
 |none=>⟨#[32,118]⟩++gL (dK com c S.snap.toNat).2.toNat
def jb (com:List (List Wr))(S:br)(i:In):ByteArray:=i.facts.foldl (fun t q=>t++kG com S (ax q.1)) (fQ i)
theorem FG {com:List (List Wr)}{S:br}{c:ByteArray}{n:Nat}(h:eM S.wr c=n):kG com S c=⟨#[32,119]⟩++gL n:=by
 unfold eM at h
 unfold kG
 cases hl:bc c S.wr with
 |none=>rw[hl] at h;simp only at h;omega
 |some k=>
  rw[hl] at h
  simp only at h
  have:k=n:=by omega
  rw[this]
theorem Fz {com:List (List Wr)}{S:br}{c:ByteArray}(h:eM S.wr c<0):kG com S c=⟨#[32,118]⟩++gL (dK com c S.snap.toNat).2.toNat:=by
 unfold eM at h
 unfold kG
 cases hl:bc c S.wr with
 |none=>rfl
 |some k=>rw[hl] at h;simp only at h;omega
theorem yR (y:Nat)(com:List (List Wr))(S:br)(p:Value)(a:Option Addr)(cp:Nat)(cs:List Value)(fc fp:List Nat)(i:In)(w:World)
  (hE:io y com S p a cp cs fc fp w) (hk:oB com S) (hf:i.facts.length≤100) (hr9:i.rule≤9) :
  Calls Tryz.prog 68 #[.pointer (some ⟨y,0,none⟩),p,ey i] w fun e w'=>e=.returned (.string (jb com S i))∧w.grownBy w' none:=by
 have hcl:=hk.comLen
 have hwl:=hk.wrLen
 have HCE:=af (oq i.facts)
 have HKS:Hid (∀ j (hj:j<i.facts.length),(i.facts.take (j+1)).foldl (fun t q=>t++kG com S (ax q.1)) (fQ i)=(i.facts.take j).foldl (fun t q=>t++kG com S (ax q.1)) (fQ i)++kG com S (ax i.facts[j].1)):=af (fun j hj=>by
  rw[List.take_succ_eq_append_getElem hj,List.foldl_append]
  rfl)
 have HKW:Hid (jb com S i=(i.facts.take i.facts.length).foldl (fun t q=>t++kG com S (ax q.1)) (fQ i)):=af (by rw[List.take_length];rfl)
 obtain⟨res,hres⟩:∃ res,res=jb com S i:=⟨_,rfl⟩
 rw[←hres] at HKW ⊢
 obtain⟨g1,a1,m1,c1,a2,m2,c2,rfl,hb1,ho1,ho2,_⟩:=hE.ses.open
 have HWR:=af (fun W=>oM i W hr9 hf)
 have HLA:Hid (∀ (c:ByteArray) (W:World),w.grownBy W none→Calls Tryz.prog 87 #[.slice a1 m1 c1,.string c] W fun e w'=>e=.returned (.int .i64 (eM S.wr c))∧w'=W):=af (fun c W hW=>nh S.wr c a1 m1 c1 0 W (by omega) (aq ho1 hW (fun g hg=>by cases hg)))
 obtain⟨st,hst⟩:∃ st:Nat,S.snap=st:=⟨S.snap.toNat,by have:=hk.snap;omega⟩
 have hstl:st≤com.length:=by have:=hk.snapLe;omega
 have HAT:Hid (∀ (c:ByteArray) (W:World),w.grownBy W none→Calls Tryz.prog 59 #[.pointer (some ⟨y,0,none⟩),.string c,.int .i64 st] W fun e w'=>e=.returned (.tuple #[.int .i64 (dK com c st).1,.int .i64 (dK com c st).2])∧w'=W):=af (fun c W hW=>by
  have h:=hE.kept hW
  exact tK y com cs fc c st a _ cp W h.cell h.row h.com hstl (by omega) hk.each)
 have HBD:=af (fun c=>nM com c st)
 have HLB:=af (CG S.wr)
 have HB1:Hid (∀ W,w.grownBy W none→W.cell? ⟨g1,1,none⟩=some (.int .i64 st)∧W.cell? ⟨g1,2,none⟩=some (.slice a1 m1 c1)):=af (fun W hW=>by
  have hb:=(hW.block _ (lt_of_block hb1) (by simp)).trans hb1
  exact⟨by rw[cell_of_row _ _ _ _ _ _ hb,←hst];rfl,by rw[cell_of_row _ _ _ _ _ _ hb];rfl⟩)
 have hg1l:=lt_of_block hb1
 have HSZ:=af (fA i.facts)
 have hws:(fQ i).size≤301:=by
  unfold fQ
  rw[ByteArray.size_append,fA]
  have:(strOfNums [48+(i.rule:Int)]).size=1:=rfl
  omega
 obtain⟨wt,hwt⟩:∃ wt,wt=fQ i:=⟨_,rfl⟩
 rw[←hwt] at HWR hws HKS HKW
 unfold ey at HWR ⊢
 obtain⟨G,hG⟩:∃ G,G=i.facts:=⟨_,rfl⟩
 rw[←hG] at hf HSZ HWR HCE HKW ⊢
 have HKS2:Hid (∀ j (hj:j<G.length),(G.take (j+1)).foldl (fun t q=>t++kG com S (ax q.1)) wt=(G.take j).foldl (fun t q=>t++kG com S (ax q.1)) wt++kG com S (ax G[j].1)):=af (by subst hG;exact HKS.out)
 clear HKS
 obtain⟨ft,hft⟩:∃ ft,ft=bA G:=⟨_,rfl⟩
 rw[←hft] at HSZ HWR HCE ⊢
 have hsz:=HSZ.out
 obtain⟨ru,hru⟩:∃ ru:Int,ru=i.rule:=⟨_,rfl⟩
 rw[←hru] at HWR ⊢
 generalize eI i.env 0=e0 at HWR ⊢
 generalize eI i.env 1=e1 at HWR ⊢
 generalize eI i.env 2=e2 at HWR ⊢
 generalize eI i.env 3=e3 at HWR ⊢
 have HSTN:Hid (S.snap.toNat=st):=af (by omega)
 clear hE hk hG hft hru hwt hb1 ho1 ho2 hst hr9 hres
 go_enter Tryz.func68,Tryz.ntmps68
 go_wp2_with fail
 go_at_call 64
 refine (HWR.out _).mono ?_
 rintro er WA ⟨rfl,hga⟩
 have HWA:Hid (w.grownBy WA none):=af (ae (ab (ag _ _) _) hga)
 have HWB:Hid (WA.cell? ⟨w.heap.size,5,none⟩=some (.string ft)):=af (am hga (eu rfl))
 clear hga
 generalize w.heap.size=b at HWB ⊢
 go_wp2_with fail
 go_loopw [7,8] (fun v t wr=>∃ (j:Nat) (u:ByteArray),j≤G.length∧t=.int .i64 ((j:Int)*3)∧v=.string u∧u.size≤301+22*j∧WA.grownBy wr none∧u=(G.take j).foldl (fun t q=>t++kG com S (ax q.1)) wt) (fun _ t _=>G.length*3 - (intOf t).toNat)
 case atStart=>exact⟨0,wt,by omega,rfl,rfl,by omega,ag _ _,rfl⟩
 case round=>
  obtain⟨j,u,hj,rfl,rfl,hus,hg,hu⟩:=hrel
  have HG:=af hg
  have HU:=af hu
  clear hu
  have d5:=am hg HWB.out
  obtain⟨d1,d2⟩:=HB1.out wr (ae HWA.out hg)
  by_cases hlt:j<G.length
  ·have b1:(j:Int)*3+2<ft.size:=by omega
   have b2:(0:Int)≤(j:Int)*3:=by omega
   obtain⟨ct,hct⟩:∃ ct,ct=ft.extract (j*3) (j*3+2):=⟨_,rfl⟩
   have hx:ft.extract (j*3) (j*3+2)=ct:=hct.symm
   have hcc:ct=ax G[j].1:=by rw[hct];exact HCE.out j hlt
   have HNX:Hid (∀ z,kG com S ct=z→u++z=(G.take (j+1)).foldl (fun t q=>t++kG com S (ax q.1)) wt):=af (fun z hz=>by rw[HKS2.out j hlt,←HU.out,←hcc,hz])
   have HL1:=af (fun n=>HLA.out ct (wr.drewN n) (al (ae HWA.out hg) n))
   have HA2:=af (fun n m=>HAT.out ct ((wr.drewN n).drewN m) (al (al (ae HWA.out hg) n) m))
   have hlb:=HLB.out ct
   have hab:=HBD.out ct
   obtain⟨lr,hlr⟩:∃ lr,lr=eM S.wr ct:=⟨_,rfl⟩
   obtain⟨v0,hv0⟩:∃ v0,v0=(dK com ct st).1:=⟨_,rfl⟩
   obtain⟨t0,ht0⟩:∃ t0,t0=(dK com ct st).2:=⟨_,rfl⟩
   have HLR:=af hlr
   have HT0:=af ht0
   rw[←hlr] at HL1 hlb
   rw[←hv0,←ht0] at HA2
   rw[←ht0] at hab
   have ej:((j:Int)*3+3)=((j+1:Nat):Int)*3:=by omega
   have HEJ:=af ej
   have c1':(0:Int)≤(j:Int)*3+2:=by omega
   have c2':(j:Int)*3≤(j:Int)*3+2:=by omega
   have c3':(j:Int)*3+2≤ft.size:=by omega
   have c4':IntKind.i64.wrap ((j:Int)*3+2)=(j:Int)*3+2:=Go.IntWalk.i64_in _ (by omega)
   have t1':((j:Int)*3).toNat=j*3:=by omega
   have t2':((j:Int)*3+2).toNat=j*3+2:=by omega
   clear hct hcc hlr hv0 ht0 hg ej hsz
   go_wp2_with fail
   go_quiet ((go_at_call 87;exact Calls.quiet_of_same (HL1.out _)))
   by_cases hl0:0≤lr
   ·obtain⟨ln,hln⟩:∃ ln:Nat,lr=ln:=⟨lr.toNat,by omega⟩
    subst hln
    have HD:=af (fun W=>qG ln W (by omega))
    go_wp2_with fail
    go_at_call 99
    refine (HD.out _).mono ?_
    rintro er w1 ⟨⟨rfl,hdt⟩,hg1⟩
    obtain⟨dt,hdte⟩:∃ dt,dt=gL ln:=⟨_,rfl⟩
    rw[←hdte] at hdt ⊢
    have HG1:=af hg1
    clear hg1
    have HN2:Hid (u++(⟨#[32,119]⟩:ByteArray)++dt=(G.take (j+1)).foldl (fun t q=>t++kG com S (ax q.1)) wt):=af (by rw[ByteArray.append_assoc,hdte];exact HNX.out _ (FG HLR.out.symm))
    clear hdte
    have hu2:(u++(⟨#[32,119]⟩:ByteArray)).size=u.size+2:=by rw[ByteArray.size_append];rfl
    have HS2:Hid ((u++(⟨#[32,119]⟩:ByteArray)++dt).size≤301+22*(j+1)):=af (by rw[ByteArray.size_append,hu2];omega)
    go_wp2_with fail
    go_roundw
    case rel=>exact⟨j+1,_,by omega,by rw[←HEJ.out],rfl,HS2.out,ae (al HG.out _) HG1.out,HN2.out⟩
    case measure=>simp[intOf];omega
   ·generalize hW1:World.drewN wr _=W1
    have HGW:Hid (WA.grownBy W1 none):=af (by rw[←hW1];exact al HG.out _)
    have f5:W1.cell? ⟨b,5,none⟩=some (.string ft):=by rw[←hW1];exact d5
    have f1:W1.cell? ⟨g1,1,none⟩=some (.int .i64 st):=by rw[←hW1];exact d1
    have HA1:Hid (∀ n,Calls Tryz.prog 59 #[.pointer (some ⟨y,0,none⟩),.string ct,.int .i64 st] (W1.drewN n) fun e w'=>e=.returned (.tuple #[.int .i64 v0,.int .i64 t0])∧w'=W1.drewN n):=af (fun n=>by rw[←hW1];exact HA2.out _ n)
    clear hW1 d5 d1 d2 HA2
    go_wp2_with fail
    go_quiet ((go_at_call 59;exact Calls.quiet_of_same (HA1.out _)))
    obtain⟨ln,hln⟩:∃ ln:Nat,t0=ln:=⟨t0.toNat,by omega⟩
    subst hln
    have HD:=af (fun W=>qG ln W (by omega))
    go_wp2_with fail
    go_at_call 99
    refine (HD.out _).mono ?_
    rintro er w1 ⟨⟨rfl,hdt⟩,hg1⟩
    obtain⟨dt,hdte⟩:∃ dt,dt=gL ln:=⟨_,rfl⟩
    rw[←hdte] at hdt ⊢
    have HG1:=af hg1
    clear hg1
    have HN2:Hid (u++(⟨#[32,118]⟩:ByteArray)++dt=(G.take (j+1)).foldl (fun t q=>t++kG com S (ax q.1)) wt):=af (by
     rw[ByteArray.append_assoc,hdte]
     refine HNX.out _ ((Fz (by rw[←HLR.out];omega)).trans ?_)
     rw[HSTN.out,←HT0.out]
     rfl)
    clear hdte
    have hu2:(u++(⟨#[32,118]⟩:ByteArray)).size=u.size+2:=by rw[ByteArray.size_append];rfl
    have HS2:Hid ((u++(⟨#[32,118]⟩:ByteArray)++dt).size≤301+22*(j+1)):=af (by rw[ByteArray.size_append,hu2];omega)
    go_wp2_with fail
    go_roundw
    case rel=>exact⟨j+1,_,by omega,by rw[←HEJ.out],rfl,HS2.out,ae (al HGW.out _) HG1.out,HN2.out⟩
    case measure=>simp[intOf];omega
  ·have ejl:j=G.length:=by omega
   have HUU:Hid (u=res):=af (by rw[HU.out,HKW.out,ejl])
   clear hg
   go_wp2_with fail
   go_ret
   exact⟨by rw[←HUU.out];rfl,ae HWA.out HG.out⟩
def xT (l:List ByteArray)(k:ByteArray):Bool:=l.any fun t=>t.toList==k.toList
theorem AY (y:Nat)(com:List (List Wr))(S:br)(p:Value)(a:Option Addr)(cp:Nat)(cs:List Value)(fc fp:List Nat)(i:In)(w:World)
  (hE:io y com S p a cp cs fc fp w) (hk:oB com S) (hf:i.facts.length≤100) (hr9:i.rule≤9) (hFl:S.fired.length≤1000000000000) :
  Calls Tryz.prog 92 #[.pointer (some ⟨y,0,none⟩),p,ey i] w fun e w'=>e=.returned (.bool (xT S.fired (jb com S i)))∧w.grownBy w' none:=by
 have HKEY:Hid (∀ W,w.grownBy W none→Calls Tryz.prog 68 #[.pointer (some ⟨y,0,none⟩),p,ey i] W fun e w'=>e=.returned (.string (jb com S i))∧W.grownBy w' none):=af (fun W hW=>yR y com S p a cp cs fc fp i W (hE.kept hW) hk hf hr9)
 obtain⟨g1,a1,m1,c1,a2,m2,c2,rfl,hb1,ho1,ho2,_⟩:=hE.ses.open
 have em:=au ho2
 subst em
 have HROW:=af ho2
 obtain⟨FL,hFLe⟩:∃ FL,FL=S.fired:=⟨_,rfl⟩
 obtain⟨ky,hky⟩:∃ ky,ky=jb com S i:=⟨_,rfl⟩
 rw[←hFLe] at HROW hFl hb1
 rw[←hky] at HKEY
 rw[←hFLe,←hky]
 obtain⟨res,hres⟩:∃ res,res=xT FL ky:=⟨_,rfl⟩
 rw[←hres]
 have HRES:=af hres
 have HB:Hid (∀ W,w.grownBy W none→W.cell? ⟨g1,3,none⟩=some (.slice a2 FL.length c2)):=af (fun W hW=>by
  have hb:=(hW.block _ (lt_of_block hb1) (by simp)).trans hb1
  rw[cell_of_row _ _ _ _ _ _ hb];rfl)
 unfold ey at HKEY ⊢
 obtain⟨ft,hft⟩:∃ ft,ft=bA i.facts:=⟨_,rfl⟩
 rw[←hft] at HKEY ⊢
 obtain⟨ru,hru⟩:∃ ru:Int,ru=i.rule:=⟨_,rfl⟩
 rw[←hru] at HKEY ⊢
 generalize eI i.env 0=e0 at HKEY ⊢
 generalize eI i.env 1=e1 at HKEY ⊢
 generalize eI i.env 2=e2 at HKEY ⊢
 generalize eI i.env 3=e3 at HKEY ⊢
 clear hE hk hft hru ho1 ho2 hb1 hres hky hFLe
 go_enter Tryz.func92,Tryz.ntmps92
 go_wp2_with fail
 go_at_call 68
 refine (HKEY.out _ (ab (ag _ _) _)).mono ?_
 rintro er w1 ⟨rfl,hg1⟩
 have hgw:=ae (ab (ag w none) _) hg1
 have d3:=HB.out w1 hgw
 have HG:=af hgw
 have HR1:=af (aq HROW.out hgw (fun g hg=>by cases hg))
 clear hg1 hgw
 go_wp2_with fail
 go_loop [8] (fun i=>∃ j:Nat,j≤FL.length∧i=.int .i64 j∧∀ t (h:t<FL.length),t<j→(FL[t].toList==ky.toList)=false) (fun i=>FL.length - (intOf i).toNat)
 case atStart=>exact⟨0,by omega,rfl,fun t _ h=>by omega⟩
 case round=>
  obtain⟨j,hj,rfl,hno⟩:=hrel
  have HNO:=af hno
  clear hno
  by_cases hlt:j<FL.length
  ·obtain⟨gf,rfl,_,_,_,hcell⟩:=aC HR1.out (by omega)
   have e0:w1.cell? ⟨gf,j,none⟩=some (.string FL[j]):=hcell j _ (by simp[hlt])
   obtain⟨fj,hfj⟩:∃ fj,fj=FL[j]:=⟨_,rfl⟩
   rw[←hfj] at e0
   cases q:(fj.toList==ky.toList) with
   |true=>
    have HRT:Hid (res=true):=af (by
     rw[HRES.out]
     unfold xT
     rw[List.any_eq_true]
     exact⟨FL[j],List.getElem_mem hlt,by rw[←hfj];exact q⟩)
    have j0:(0:Int)≤(j:Int):=by omega
    have j1:(j:Int)<(FL.length:Int):=by omega
    clear hcell hfj
    go_wp2_with fail
    go_ret
    exact⟨by rw[HRT.out];rfl,HG.out⟩
   |false=>
    have HNO2:Hid (∀ t (h:t<FL.length),t<j+1→(FL[t].toList==ky.toList)=false):=af (fun t ht h2=>by
     by_cases e:t=j
     ·subst e;rw[←hfj];exact q
     ·exact HNO.out t ht (by omega))
    have j0:(0:Int)≤(j:Int):=by omega
    have j1:(j:Int)<(FL.length:Int):=by omega
    clear hcell hfj
    go_wp2_with fail
    go_round
    case rel=>exact⟨j+1,by omega,by go_num,HNO2.out⟩
    case measure=>simp[intOf];omega
  ·have HRF:Hid (res=false):=af (by
    rw[HRES.out]
    unfold xT
    rw[List.any_eq_false]
    intro x hx
    obtain⟨t,ht,e⟩:=List.getElem_of_mem hx
    rw[←e,HNO.out t ht (by omega)]
    simp)
   go_wp2_with fail
   go_ret
   exact⟨by rw[HRF.out];rfl,HG.out⟩
def nD (L:List In)(fd:In→Bool)(i:Nat):List In:=(L.take i).filter fun z=>!fd z
theorem Cj (L:List In)(fd:In→Bool)(i:Nat)(hi:i<L.length):nD L fd (i+1)=nD L fd i++(if fd L[i] then [] else [L[i]]):=by
 unfold nD
 rw[List.take_succ_eq_append_getElem hi,List.filter_append]
 congr 1
 cases h:fd L[i] <;> simp[h]
theorem CB (y:Nat)(com:List (List Wr))(S:br)(p:Value)(a:Option Addr)(cp:Nat)(cs:List Value)(fc fp:List Nat)(s:ByteArray)(R:List ay)(ra:Option Addr)(rc:Nat)(xs:List Value)(F:List aw)(L:List In)(lt:In→In→Bool)(fd:In→Bool)(w:World)
  (hE:io y com S p a cp cs fc fp w) (hA:lL y s R ra rc xs w) (hk:oB com S)
  (HFI:Hid (∀ i∈L,∀ W,w.grownBy W none→Calls Tryz.prog 92 #[.pointer (some ⟨y,0,none⟩),p,ey i] W fun e w'=>e=.returned (.bool (fd i))∧W.grownBy w' none))
  (hFA:Hid (Calls Tryz.prog 51 #[.pointer (some ⟨y,0,none⟩),p] w fun e w'=>∃ v,e=.returned v∧w'.ownsRow w.heap.size 9 1 v F.length (gC F)∧w.grownBy w' none))
  (hALL:Hid (∀ (fa:Option Addr) (fcp:Nat) (W:World),w.grownBy W none→W.ownsRow 0 9 1 (.slice fa F.length fcp) F.length (gC F)→Calls Tryz.prog 91 #[.slice ra R.length rc,.slice fa F.length fcp] W fun e w'=>∃ v,e=.returned v∧w'.ownsRow W.heap.size 136 6 v L.length (aI L)∧W.grownBy w' none))
  (hw:xa lt) (hLn:L.length≤10000000000) (hL:∀ i∈L,i.facts.length≤100∧i.rule<R.length∧i.rule≤9)
  (hlt:∀ k (h1:k<L.length) i (h2:i<L.length),i<k→j6 (eh s R L[k].rule) (eh s R L[i].rule) (gT com S L[k].facts) (gT com S L[i].facts) L[k].rule L[i].rule (DX (bA L[k].facts) (bA L[i].facts))=lt L[k] L[i]) :
  Calls Tryz.prog 63 #[.pointer (some ⟨y,0,none⟩),p] w fun e w'=>∃ v,e=.returned v∧w'.ownsRow w.heap.size 136 6 v (nD L fd L.length).length (aI (bK lt (nD L fd L.length)))∧w.grownBy w' none:=by
 obtain⟨i0,hi0,hz0,hz1,hz2⟩:=info_parts Tryz.info136
 have HE:=af hE
 have HA:=af hA
 have c0:=hA.cell
 have HAH:Hid (∀ i∈L,∀ j∈L,∀ W,w.grownBy W none→Calls Tryz.prog 93 #[.pointer (some ⟨y,0,none⟩),p,ey i,ey j] W fun e w'=>e=.returned (.bool (j6 (eh s R i.rule) (eh s R j.rule) (gT com S i.facts) (gT com S j.facts) i.rule j.rule (DX (bA i.facts) (bA j.facts))))∧W.grownBy w' none):=af (fun i hi j hj W hW=>zk y com S p a cp cs fc fp s R ra rc xs i j W (hE.kept hW) (hA.kept hW) hk (hL i hi).1 (hL j hj).1 (hL i hi).2.1 (hL j hj).2.1)
 have HLT:=af hlt
 have HW:=af hw
 clear hE hA hk hL hlt hw
 go_enter Tryz.func63,Tryz.ntmps63
 go_wp2_with fail
 go_at_call 51
 refine hFA.out.mono ?_
 rintro er w1 ⟨fv,rfl,hof,hg1⟩
 obtain⟨fa,fm,fcp,rfl⟩:=an hof
 have em:=au hof
 subst em
 have HC:=af (hALL.out fa fcp w1 hg1 (bN hof (Nat.zero_le _)))
 have d0:=am hg1 c0
 have HG1:=af hg1
 clear hof hg1 hFA hALL
 go_wp2_with fail
 go_at_call 91
 refine HC.out.mono ?_
 rintro er w2 ⟨lv,rfl,hol,hg2⟩
 obtain⟨la,lm,lcp,rfl⟩:=an hol
 have em:=au hol
 subst em
 have HG2:=af (ae HG1.out hg2)
 have HOL:=af hol
 clear HC hol hg2 d0 c0
 go_wp2_with fail
 go_loopw [7,8] (fun v t wr=>∃ i:Nat,i≤L.length∧t=.int .i64 i∧wr.ownsRow w2.heap.size 136 6 v (nD L fd i).length (aI (bK lt (nD L fd i)))∧w2.grownBy wr none) (fun _ t _=>L.length - (intOf t).toNat)
 case atStart=>exact⟨0,by omega,rfl,World.ownsRow_nil _ _ _ _,ag _ _⟩
 case round=>
  obtain⟨i,hi,rfl,hown,hg⟩:=hrel
  generalize wr=W3 at*
  have HG:=af hg
  have HOW:=af hown
  by_cases hltI:i<L.length
  ·have how:=aq HOL.out hg (fun g hg=>by cases hg)
   obtain⟨gl,hla,_,_,hgl,hcell⟩:=aC how (by omega)
   subst hla
   obtain⟨x0,x1,x2,x3,x4,x5⟩:=gn L i hltI
   have d0:=hcell _ _ x0
   have d1:=hcell _ _ x1
   have d2:=hcell _ _ x2
   have d3:=hcell _ _ x3
   have d4:=hcell _ _ x4
   have d5:=hcell _ _ x5
   have hmem:L[i]∈L:=List.getElem_mem hltI
   have HC:=af (HFI.out L[i] hmem W3 (ae HG2.out hg))
   have HSN:=af (lj (bK lt (nD L fd i)) L[i])
   have hol:(bK lt (nD L fd i)).length=(nD L fd i).length:=dP _
   have hfle:(nD L fd i).length≤i:=Nat.le_trans (List.length_filter_le _ _) (List.length_take_le i L)
   have HFS:=af (Cj L fd i hltI)
   have HIS:Hid (fd L[i]=false→bK lt (nD L fd (i+1))=fK lt L[i] (bK lt (nD L fd i))):=af (fun e=>by rw[HFS.out,e,if_neg (by simp),pB])
   have HFL1:Hid (fd L[i]=false→(nD L fd (i+1)).length=(nD L fd i).length+1):=af (fun e=>by rw[HFS.out,e];simp)
   have HFL0:Hid (fd L[i]=true→nD L fd (i+1)=nD L fd i):=af (fun e=>by rw[HFS.out,e];simp)
   have HSO:=af (sQ HW.out (nD L fd i))
   have HMEM:Hid (∀ z∈bK lt (nD L fd i),z∈L∧j6 (eh s R L[i].rule) (eh s R z.rule) (gT com S L[i].facts) (gT com S z.facts) L[i].rule z.rule (DX (bA L[i].facts) (bA z.facts))=lt L[i] z):=af (fun z hz=>by
    have hz2:=(List.mem_filter.mp (lk.mp hz)).1
    obtain⟨q,hq,rfl⟩:=List.mem_iff_getElem.mp hz2
    have hq2:q<i:=by simp at hq;omega
    have hq3:q<L.length:=by omega
    have e:(L.take i)[q]=L[q]:=by simp
    rw[e]
    exact⟨List.getElem_mem hq3,HLT.out i hltI q hq3 hq2⟩)
   unfold ey at HC
   obtain⟨it,hit⟩:∃ it,it=L[i]:=⟨_,rfl⟩
   rw[←hit] at HC HSN HIS HMEM HFL1 HFL0 hmem d0 d1 d2 d3 d4 d5
   obtain⟨O,hO⟩:∃ O,O=bK lt (nD L fd i):=⟨_,rfl⟩
   rw[←hO] at HSN HIS HMEM HSO hol HOW
   obtain⟨ok0,hok0⟩:∃ ok0,ok0=fd it:=⟨_,rfl⟩
   rw[←hok0] at HC HIS HFL1 HFL0
   obtain⟨ru,hru⟩:∃ ru:Int,ru=it.rule:=⟨_,rfl⟩
   obtain⟨e0,he0⟩:∃ e0,e0=eI it.env 0:=⟨_,rfl⟩
   obtain⟨e1,he1⟩:∃ e1,e1=eI it.env 1:=⟨_,rfl⟩
   obtain⟨e2,he2⟩:∃ e2,e2=eI it.env 2:=⟨_,rfl⟩
   obtain⟨e3,he3⟩:∃ e3,e3=eI it.env 3:=⟨_,rfl⟩
   obtain⟨ft,hft⟩:∃ ft,ft=bA it.facts:=⟨_,rfl⟩
   have HIT:Hid (ru=it.rule∧e0=eI it.env 0∧e1=eI it.env 1∧e2=eI it.env 2∧e3=eI it.env 3∧ft=bA it.facts):=af ⟨hru,he0,he1,he2,he3,hft⟩
   rw[←hru,←he0,←he1,←he2,←he3,←hft] at HC HSN
   rw[←hru] at d0
   rw[←he0] at d1
   rw[←he1] at d2
   rw[←he2] at d3
   rw[←he3] at d4
   rw[←hft] at d5
   obtain⟨av,mv,cv,rfl⟩:=an hown
   have em:=au hown
   subst em
   obtain⟨mv,hmv⟩:∃ mv,mv=(nD L fd i).length:=⟨_,rfl⟩
   rw[←hmv] at hol hfle HFL1 HOW ⊢
   have HOO:=af hO
   have HMV:=af hmv
   clear how hcell x0 x1 x2 x3 x4 x5 hown hg hit hO hru he0 he1 he2 he3 hft hok0 hmv
   go_wp2_with fail
   go_at_call 92
   refine HC.out.mono ?_
   rintro er w4 ⟨rfl,hg4⟩
   have c0:=am hg4 d0
   have c1:=am hg4 d1
   have c2:=am hg4 d2
   have c3:=am hg4 d3
   have c4:=am hg4 d4
   have c5:=am hg4 d5
   have how4:=aq HOW.out hg4 (fun g hg=>by cases hg)
   have HG4:=af (ae HG.out hg4)
   have hs4:=HG4.out.size
   have HO4:=af how4
   clear d0 d1 d2 d3 d4 d5 hg4 HC
   cases ok0 with
   |true=>
    have HZ:=af (HFL0.out rfl)
    clear how4 HIS HFL1 HFL0
    go_wp2_with fail
    go_roundw
    case rel=>exact⟨i+1,by omega,by go_num,by rw[HZ.out,←HMV.out,←HOO.out];exact HO4.out,HG4.out⟩
    case measure=>simp[intOf];omega
   |false=>
   have HIS1:=af (HIS.out rfl)
   have HFLL:=af (HFL1.out rfl)
   clear HIS HFL1 HFL0
   go_wp2_with (first|(at_builtin;refine wpList_append_own _ rfl (.tmp 36) (.tmp 41) 130 rfl (w2.heap.size) 136 i0 (.agg #[.int .i64 0,.int .i64 0,.int .i64 0,.int .i64 0,.int .i64 0,.string ByteArray.empty]) 6 56 Tryz.underlying130 hi0 hz0 hz1 hz2 rfl (by decide) _ _ _ rfl (how4.alloc _) _ 1 1 [.int .i64 ru,.int .i64 e0,.int .i64 e1,.int .i64 e2,.int .i64 e3,.string ft] rfl rfl ?c1 ?c2 ?c3 ?c4 ?c5 ?_))
   case c1=>intro j u hj;exact bj hj
   case c2=>intro u hu;simp at hu;rcases hu with h|h|h|h|h|h <;> subst h <;> rfl
   case c3=>unfold maxLen;omega
   case c4=>omega
   case c5=>simp;omega
   ·intro v' w5 hown5 hg5 _
    have HG5:Hid (w2.grownBy w5 none):=af (aL (ab HG4.out _) hg5 (fun g hg=>(HO4.out.lt g hg).1))
    have HO5:Hid (w5.ownsRow w2.heap.size 136 6 v' (mv+1) (aI (O.take O.length++it::O.drop O.length))):=af (by
     rw[List.take_length,List.drop_length,HSN.out]
     exact hown5)
    clear hown5 hg5 how4 c0 c1 c2 c3 c4 c5
    obtain⟨va,vm,vc,rfl⟩:=an HO5.out
    have em:=au HO5.out
    subst em
    obtain⟨gv,hva,_,hgvb,_,_⟩:=aC HO5.out (by omega)
    subst hva
    go_wp2_with fail
    have HPUT:Hid (∀ k,k≤O.length→(∀ b∈O.drop k,lt it b=true)→(k=0∨∃ h:k - 1<O.length,lt it O[k - 1]=false)→aI (O.take k++it::O.drop k)=aI (bK lt (nD L fd (i+1)))):=af (fun k hk h1 h2=>by rw[HIS1.out,yM HW.out it O k hk HSO.out h1 h2])
    go_loopw [10] (fun t wr2=>∃ k:Nat,k≤O.length∧t=.int .i64 k∧wr2.ownsRow w2.heap.size 136 6 (.slice (some ⟨gv,0,none⟩) (mv+1) vc) (mv+1) (aI (O.take k++it::O.drop k))∧w2.grownBy wr2 none∧∀ b∈O.drop k,lt it b=true) (fun t _=>(intOf t).toNat)
    case atStart=>exact⟨O.length,Nat.le_refl _,by rw[hol],HO5.out,HG5.out,by simp⟩
    case round=>
     obtain⟨k,hkO,rfl,hrow,hgr,hall⟩:=hrel
     have HALL:=af hall
     have HGR:=af hgr
     have HROW:=af hrow
     clear hall
     cases k with
     |zero=>
      have HX:=af (HPUT.out 0 (Nat.zero_le _) HALL.out (.inl rfl))
      have HFIN:Hid (wr.ownsRow w2.heap.size 136 6 (.slice (some ⟨gv,0,none⟩) (mv+1) vc) (mv+1) (aI (bK lt (nD L fd (i+1))))):=af (by rw[←HX.out];exact HROW.out)
      clear hrow hgr
      go_wp2_with fail
      go_roundw
      case rel=>exact⟨i+1,by omega,by go_num,by rw[HFLL.out];exact HFIN.out,HGR.out⟩
      case measure=>simp[intOf];omega
     |succ m=>
      have hmO:m<O.length:=by omega
      obtain⟨_,hx1,hx2⟩:=Ez (x:=it) hkO
      obtain⟨hy1,hy2⟩:=CC (x:=it) hmO
      obtain⟨s1,s2⟩:=Cr (x:=it) hmO
      obtain⟨x0,x1,x2,x3,x4,x5⟩:=gn _ (m+1) hx1
      obtain⟨y0,y1,y2,y3,y4,y5⟩:=gn _ m hy1
      rw[hx2] at x0 x1 x2 x3 x4 x5
      rw[hy2] at y0 y1 y2 y3 y4 y5
      obtain⟨gv',hgv',_,_,hgvl,hcell⟩:=aC hrow (by omega)
      simp only[Option.some.injEq,Addr.mk.injEq,and_true] at hgv'
      subst hgv'
      have a0:=hcell _ _ x0
      have a1:=hcell _ _ x1
      have a2:=hcell _ _ x2
      have a3:=hcell _ _ x3
      have a4:=hcell _ _ x4
      have a5:=hcell _ _ x5
      have b0:=hcell _ _ y0
      have b1:=hcell _ _ y1
      have b2:=hcell _ _ y2
      have b3:=hcell _ _ y3
      have b4:=hcell _ _ y4
      have b5:=hcell _ _ y5
      have HSW:Hid (pa (aI (O.take (m+1)++it::O.drop (m+1))) m O[m] it=aI (O.take m++it::O.drop m)):=af (by rw[s1,s2];exact wQ _ _ _ _ m (by simp;omega))
      obtain⟨hzL,hzA⟩:=HMEM.out O[m] (List.getElem_mem hmO)
      have HC:=af (HAH.out it hmem O[m] hzL wr.drew (al (ae HG2.out hgr) 1))
      rw[hzA] at HC
      have HDR:Hid (lt it O[m]=true→∀ b∈O.drop m,lt it b=true):=af (fun h b hb=>by
       rw[List.drop_eq_getElem_cons hmO] at hb
       rcases List.mem_cons.mp hb with rfl|hb
       ·exact h
       ·exact HALL.out b hb)
      have HX:Hid (lt it O[m]=false→aI (O.take (m+1)++it::O.drop (m+1))=aI (bK lt (nD L fd (i+1)))):=af (fun h=>HPUT.out (m+1) hkO HALL.out (.inr ⟨hmO,by simpa using h⟩))
      obtain⟨hr0,hr1,hr2,hr3,hr4,hr5⟩:=HIT.out
      obtain⟨zz,hzz⟩:∃ zz,zz=O[m]:=⟨_,rfl⟩
      rw[←hzz] at b0 b1 b2 b3 b4 b5 HSW HC HDR HX
      obtain⟨zr,hzr⟩:∃ zr:Int,zr=zz.rule:=⟨_,rfl⟩
      obtain⟨z0,hz0'⟩:∃ z0,z0=eI zz.env 0:=⟨_,rfl⟩
      obtain⟨z1,hz1'⟩:∃ z1,z1=eI zz.env 1:=⟨_,rfl⟩
      obtain⟨z2,hz2'⟩:∃ z2,z2=eI zz.env 2:=⟨_,rfl⟩
      obtain⟨z3,hz3'⟩:∃ z3,z3=eI zz.env 3:=⟨_,rfl⟩
      obtain⟨zf,hzf⟩:∃ zf,zf=bA zz.facts:=⟨_,rfl⟩
      unfold ey at HC
      unfold pa at HSW
      rw[←hr0,←hr1,←hr2,←hr3,←hr4,←hr5,←hzr,←hz0',←hz1',←hz2',←hz3',←hzf] at HC HSW
      rw[←hr0] at a0
      rw[←hr1] at a1
      rw[←hr2] at a2
      rw[←hr3] at a3
      rw[←hr4] at a4
      rw[←hr5] at a5
      rw[←hzr] at b0
      rw[←hz0'] at b1
      rw[←hz1'] at b2
      rw[←hz2'] at b3
      rw[←hz3'] at b4
      rw[←hzf] at b5
      obtain⟨ok,hok⟩:∃ ok,ok=lt it zz:=⟨_,rfl⟩
      rw[←hok] at HC HDR HX
      have i1:(0:Int)≤(m:Int)+1:=by omega
      have i2:(m:Int)+1<(mv:Int)+1:=by omega
      have i3:(m:Int)<(mv:Int)+1:=by omega
      have i4:((m:Int)+1).toNat=m+1:=by omega
      have i5:IntKind.i64.wrap ((m:Int)+1 - 1)=(m:Int):=by rw[show ((m:Int)+1 - 1)=(m:Int) by omega];exact Go.IntWalk.i64_in _ (by omega)
      have i6:IntKind.i64.wrap (m:Int)=(m:Int):=Go.IntWalk.i64_in _ (by omega)
      rw[show ((m+1:Nat):Int)=(m:Int)+1 by omega]
      have HGRO:Hid (∀ w5,Fr [] wr w5→w2.grownBy w5 none):=af (fun w5 h=>ae HGR.out (bG h))
      have HRK:Hid (∀ w5,Fr [] wr w5→w5.ownsRow w2.heap.size 136 6 (.slice (some ⟨gv,0,none⟩) (mv+1) vc) (mv+1) (aI (O.take (m+1)++it::O.drop (m+1)))):=af (fun w5 h=>aq HROW.out (bG h) (fun g hg=>by cases hg))
      clear hzz hzr hz0' hz1' hz2' hz3' hzf hr0 hr1 hr2 hr3 hr4 hr5 hok hcell x0 x1 x2 x3 x4 x5 y0 y1 y2 y3 y4 y5 hrow hgr s1 s2 hx1 hx2 hy1 hy2 hzA hzL
      go_wp2_with fail
      go_region_held3 (fun W=>W.cell? ⟨gv,(m+1)*6,none⟩=some (.int .i64 ru)∧W.cell? ⟨gv,(m+1)*6+1,none⟩=some (.int .i64 e0)∧W.cell? ⟨gv,(m+1)*6+2,none⟩=some (.int .i64 e1)∧W.cell? ⟨gv,(m+1)*6+3,none⟩=some (.int .i64 e2)∧W.cell? ⟨gv,(m+1)*6+4,none⟩=some (.int .i64 e3)∧W.cell? ⟨gv,(m+1)*6+5,none⟩=some (.string ft)∧W.cell? ⟨gv,m*6,none⟩=some (.int .i64 zr)∧W.cell? ⟨gv,m*6+1,none⟩=some (.int .i64 z0)∧W.cell? ⟨gv,m*6+2,none⟩=some (.int .i64 z1)∧W.cell? ⟨gv,m*6+3,none⟩=some (.int .i64 z2)∧W.cell? ⟨gv,m*6+4,none⟩=some (.int .i64 z3)∧W.cell? ⟨gv,m*6+5,none⟩=some (.string zf)) (first|(with_reducible exact⟨pa0,pa1,pa2,pa3,pa4,pa5,pb0,pb1,pb2,pb3,pb4,pb5⟩)|(simp only[World.cell?_drew];with_reducible exact⟨a0,a1,a2,a3,a4,a5,b0,b1,b2,b3,b4,b5⟩)) (first
       |(go_at_call 93
         refine (HC.out).mono ?_
         rintro er w6 ⟨rfl,hg6⟩
         have hfr6:Fr [] wr w6:=(ar (Fr.refl [] wr)).trans (aK hg6)
         have pa0:=aE hfr6 a0
         have pa1:=aE hfr6 a1
         have pa2:=aE hfr6 a2
         have pa3:=aE hfr6 a3
         have pa4:=aE hfr6 a4
         have pa5:=aE hfr6 a5
         have pb0:=aE hfr6 b0
         have pb1:=aE hfr6 b1
         have pb2:=aE hfr6 b2
         have pb3:=aE hfr6 b3
         have pb4:=aE hfr6 b4
         have pb5:=aE hfr6 b5
         have HF6:=af hfr6
         clear hfr6 hg6))
      cases ok with
      |false=>
       have HX2:=af (HX.out rfl)
       have HFIN:Hid (w6.ownsRow w2.heap.size 136 6 (.slice (some ⟨gv,0,none⟩) (mv+1) vc) (mv+1) (aI (bK lt (nD L fd (i+1))))):=af (by rw[←HX2.out];exact HRK.out _ HF6.out)
       go_wp2_with fail
       go_roundw
       case rel=>exact⟨i+1,by omega,by go_num,by rw[HFLL.out];exact HFIN.out,HGRO.out _ HF6.out⟩
       case measure=>simp[intOf];omega
      |true=>
       have hrow6:=HRK.out _ HF6.out
       have f0:=eT hrow6 ((m+1)*6)
       have f1:=eT hrow6 ((m+1)*6+1)
       have f2:=eT hrow6 ((m+1)*6+2)
       have f3:=eT hrow6 ((m+1)*6+3)
       have f4:=eT hrow6 ((m+1)*6+4)
       have f5:=eT hrow6 ((m+1)*6+5)
       have g0:=eT hrow6 (m*6)
       have g1:=eT hrow6 (m*6+1)
       have g2:=eT hrow6 (m*6+2)
       have g3:=eT hrow6 (m*6+3)
       have g4:=eT hrow6 (m*6+4)
       have g5:=eT hrow6 (m*6+5)
       have gv6:gv<w6.heap.size:=(hrow6.lt gv rfl).2
       have gvn:gv≠w6.heap.size:=by omega
       have HR6:=af hrow6
       have HGVB:=af (hrow6.lt gv rfl).1
       clear hrow6
       go_wp2_with fail
       go_roundw
       case rel=>
        refine⟨m,by omega,rfl,?_,?_,HDR.out rfl⟩
        ·rw[←HSW.out]
         exact (fT (fT (fT (fT (fT (fT (fT (fT (fT (fT (fT (fT HR6.out _) _) _) _) _) _) _) _) _) _) _) _).alloc _
        ·exact ab (aj (aj (aj (aj (aj (aj (aj (aj (aj (aj (aj (aj (HGRO.out _ HF6.out) (.inr HGVB.out) _) (.inr HGVB.out) _) (.inr HGVB.out) _) (.inr HGVB.out) _) (.inr HGVB.out) _) (.inr HGVB.out) _) (.inr HGVB.out) _) (.inr HGVB.out) _) (.inr HGVB.out) _) (.inr HGVB.out) _) (.inr HGVB.out) _) (.inr HGVB.out) _) _
       case measure=>simp[intOf]
  ·have ei:i=L.length:=by omega
   subst ei
   clear hown hg
   go_wp2_with fail
   go_ret
   exact⟨_,rfl,bN HOW.out HG2.out.size,ae HG2.out HG.out⟩
end Go.Proofs.YthlhbjnkohinmaaGreat
