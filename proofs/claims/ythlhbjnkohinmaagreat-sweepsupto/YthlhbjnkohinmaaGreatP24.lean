import Derived.Test.YthlhbjnkohinmaaGreatP09
import Derived.Test.YthlhbjnkohinmaaGreatP23
import Derived.Laws.BytesArg
namespace Go.Proofs.YthlhbjnkohinmaaGreat
set_option maxRecDepth 100000
set_option maxHeartbeats 8000000
open Go.RowKit
abbrev Wr:=ByteArray×Int
structure br where
 num:Int
 snap:Int
 wr:List Wr
 fired:List ByteArray
def aP (l:List Wr):List Value:=l.flatMap fun p=>[.string p.1,.int .i64 p.2]
theorem kq (l:List Wr)(p:Wr):aP (l++[p])=aP l++[.string p.1,.int .i64 p.2]:=by simp[aP]
theorem dD:∀ (l:List Wr)(k:Nat)(hk:k<l.length) ,(aP l)[k*2]?=some (.string l[k].1)∧(aP l)[k*2+1]?=some (.int .i64 l[k].2)
 |p::l,0,_=>⟨rfl,rfl⟩
 |p::l,k+1,hk=>by
  obtain⟨h1,h2⟩:=dD l k (by simpa using hk)
  have e:aP (p::l)=.string p.1::.int .i64 p.2::aP l:=rfl
  rw[e,show (k+1)*2=k*2+1+1 by omega]
  exact⟨by simpa using h1,by simpa using h2⟩
def bc (c:ByteArray):List Wr→Option Nat
 |[]=>none
 |p::l=>match bc c l with|some k=>some (k+1)|none=>if p.1=c then some 0 else none
def eM (l:List Wr)(c:ByteArray):Int:=match bc c l with|some k=>k|none=>-1
theorem lW {c:ByteArray}:∀ {l:List Wr},(∀ j (h:j<l.length),l[j].1≠c)→bc c l=none
 |[],_=>rfl
 |p::l,h=>by
  have h1:bc c l=none:=lW (fun j hj=>h (j+1) (by simpa using hj))
  have h2:¬p.1=c:=h 0 (by simp)
  simp[bc,h1,h2]
theorem ql {c:ByteArray}:∀ {l:List Wr} {k:Nat} (hk:k<l.length),l[k].1=c→(∀ j (h:j<l.length),k<j→l[j].1≠c)→bc c l=some k
 |p::l,0,_,h1,h2=>by
  have h3:bc c l=none:=lW (fun j hj=>h2 (j+1) (by simpa using hj) (by omega))
  have h4:p.1=c:=by simpa using h1
  simp[bc,h3,h4]
 |p::l,k+1,hk,h1,h2=>by
  have h3:bc c l=some k:=ql (by simpa using hk) (by simpa using h1) (fun j hj hlt=>h2 (j+1) (by simpa using hj) (by omega))
  simp[bc,h3]
theorem DC {a b:ByteArray}:(a.toList==b.toList)=decide (a=b):=by
 rw[Bool.eq_iff_iff]
 simp only[beq_iff_eq,decide_eq_true_eq]
 constructor
 ·intro h
  rw[Lib.toList_data,Lib.toList_data] at h
  exact ByteArray.ext (Array.toList_inj.mp h)
 ·intro h;rw[h]
theorem nh (l:List Wr)(c:ByteArray)(a:Option Addr)(m cp B:Nat)(w:World)(hl:l.length≤9223372036854775807)(h:w.ownsRow B 107 2 (.slice a m cp) l.length (aP l)):
  Calls Tryz.prog 87 #[.slice a m cp,.string c] w fun e w'=>e=.returned (.int .i64 (eM l c))∧w'=w:=by
 have em:=au h
 subst em
 obtain⟨r,hr⟩:∃ r,r=eM l c:=⟨_,rfl⟩
 rw[←hr]
 have HR:=af hr
 clear hr
 go_enter Tryz.func87,Tryz.ntmps87
 go_wp2_with fail
 go_loop [5] (fun t=>∃ k:Nat,k≤l.length∧t=.int .i64 ((k:Int) - 1)∧∀ j (h:j<l.length),k≤j→l[j].1≠c) (fun t=>(intOf t+1).toNat)
 case atStart=>exact⟨l.length,Nat.le_refl _,rfl,fun j h1 h2=>by omega⟩
 case round=>
  obtain⟨k,hk,rfl,hno⟩:=hrel
  have HN:=af hno
  clear hno
  cases k with
  |zero=>
   have HU:Hid (r=-1):=af (by rw[HR.out];unfold eM;rw[lW (fun j hj=>HN.out j hj (Nat.zero_le _))])
   go_wp2
   go_ret
   exact⟨j4 HU.out.symm,rfl⟩
  |succ k=>
   have hlt:k<l.length:=by omega
   obtain⟨g,rfl,_,hgb,hgl,hcell⟩:=aC h (by omega)
   have d0:=hcell _ _ (dD l k hlt).1
   have hk0:((k+1:Nat):Int) - 1=(k:Int):=by omega
   rw[hk0]
   clear hcell
   obtain⟨u,hu⟩:∃ u,u=l[k].1:=⟨_,rfl⟩
   rw[←hu] at d0
   have HX:=af hu
   clear hu hk0
   by_cases he:u=c
   ·have q:(u.toList==c.toList)=true:=by rw[DC];simpa using he
    have HU:Hid (r=k):=af (by rw[HR.out];unfold eM;rw[ql hlt (by rw[←HX.out];exact he) (fun j hj hkj=>HN.out j hj (by omega))])
    clear he
    go_wp2
    go_ret
    exact⟨j4 HU.out.symm,rfl⟩
   ·have q:(u.toList==c.toList)=false:=by rw[DC];simpa using he
    have HN':Hid (∀ j (h:j<l.length),k≤j→l[j].1≠c):=af (by
     intro j hj hkj
     by_cases e:j=k
     ·subst e;rw[←HX.out];exact he
     ·exact HN.out j hj (by omega))
    clear he
    go_wp2
    go_round
    case rel=>exact⟨k,by omega,rfl,HN'.out⟩
    case measure=>simp[intOf]
def dK (com:List (List Wr))(c:ByteArray):Nat→Int×Int
 |0=>(-1,0)
 |t+1=>match bc c (com.getD t []) with|some k=>(((com.getD t []).getD k (ByteArray.empty,0)).2,(t:Int)+1)|none=>dK com c t
def im (v:Value)(l:List Wr):eW:=bn 107 2 v l.length (aP l)
theorem fP {c:ByteArray}:∀ {l:List Wr} {k:Nat},bc c l=some k→k<l.length
 |[],k,h=>by cases h
 |p::l,k,h=>by
  unfold bc at h
  cases h1:bc c l with
  |some j=>rw[h1] at h;simp at h;have:=fP h1;simp;omega
  |none=>rw[h1] at h;simp at h;simp;omega
theorem im.parts {v:Value}{l:List Wr}{w:World}{f:List Nat}(h:im v l w f):∃ a m c,v=.slice a m c∧w.ownsRow 0 107 2 (.slice a m c) l.length (aP l):=by
 obtain⟨h1,_⟩:=h
 obtain⟨a,m,c,rfl⟩:=an h1
 exact⟨a,m,c,rfl,h1⟩
theorem tK (y:Nat)(com:List (List Wr))(cs:List Value)(fc:List Nat)(c:ByteArray)(st:Nat)(a:Option Addr)(m cp:Nat)(w:World)
  (hc:w.cell? ⟨y,2,none⟩=some (.slice a m cp)) (hrow:w.ownsRow 0 97 1 (.slice a m cp) com.length cs) (hcom:aB im cs com w fc) (hst:st≤com.length) (hlen:com.length≤9223372036854775807) (hl:∀ l∈com,l.length≤9223372036854775807) :
  Calls Tryz.prog 59 #[.pointer (some ⟨y,0,none⟩),.string c,.int .i64 st] w fun e w'=>e=.returned (.tuple #[.int .i64 (dK com c st).1,.int .i64 (dK com c st).2])∧w'=w:=by
 have em:=au hrow
 subst em
 obtain⟨r,hr⟩:∃ r,r=dK com c st:=⟨_,rfl⟩
 rw[←hr]
 have HR:=af hr
 have HCOM:=af hcom
 have HL:=af hl
 have hcl:=aB.len hcom
 clear hr hcom hl
 go_enter Tryz.func59,Tryz.ntmps59
 go_wp2_with fail
 go_loop [8] (fun t=>∃ k:Nat,k≤st∧t=.int .i64 k∧r=dK com c k) (fun t=>(intOf t).toNat)
 case atStart=>exact⟨st,Nat.le_refl _,rfl,HR.out⟩
 case round=>
  obtain⟨k,hk,rfl,hrk⟩:=hrel
  have HRK:=af hrk
  clear hrk
  cases k with
  |zero=>
   go_wp2
   go_ret2
   exact⟨by rw[HRK.out];rfl,rfl⟩
  |succ k=>
   have hlt:k<com.length:=by omega
   have hlt2:k<cs.length:=by omega
   obtain⟨g,rfl,_,hgb,hgl,hcell⟩:=aC hrow (by omega)
   obtain⟨f1,hcm,_⟩:=aB.get HCOM.out k hlt2 hlt
   obtain⟨a1,m1,c1,hv1,ho1⟩:=hcm.parts
   have d0:w.cell? ⟨g,k,none⟩=some (.slice a1 m1 c1):=by rw[←hv1];exact hcell k _ (List.getElem?_eq_getElem hlt2)
   have HLA:=af (nh com[k] c a1 m1 c1 0 w (HL.out _ (List.getElem_mem hlt)) ho1)
   have hgd:com.getD k []=com[k]:=by simp[List.getD,hlt]
   have HAT:Hid (dK com c (k+1)=match bc c com[k] with|some j=>((com[k].getD j (ByteArray.empty,0)).2,(k:Int)+1)|none=>dK com c k):=af (by rw[dK,hgd])
   have e1:((k+1:Nat):Int)=(k:Int)+1:=by omega
   rw[e1]
   clear hcell hv1 hcm hgd e1
   cases hla:bc c com[k] with
   |none=>
    have e2:eM com[k] c=-1:=by unfold eM;rw[hla]
    rw[e2] at HLA
    have HAT':Hid (r=dK com c k):=af (by rw[HRK.out,HAT.out,hla])
    clear hla e2 ho1
    go_wp2_with (go_at_call 87;refine HLA.out.mono ?_;rintro e w' ⟨rfl,rfl⟩)
    go_round
    case rel=>exact⟨k,by omega,by go_num,HAT'.out⟩
    case measure=>simp[intOf]
   |some j=>
    have hj:=fP hla
    have e2:eM com[k] c=j:=by unfold eM;rw[hla]
    rw[e2] at HLA
    have HAT':Hid (r=((com[k].getD j (ByteArray.empty,0)).2,(k:Int)+1)):=af (by rw[HRK.out,HAT.out,hla])
    have hll:=HL.out _ (List.getElem_mem hlt)
    have hjd:(com[k].getD j (ByteArray.empty,0)).2=com[k][j].2:=by simp[List.getD,hj]
    rw[hjd] at HAT'
    have HO1:=af ho1
    have HJ:=af hj
    clear hla e2 ho1 hjd
    go_wp2_with fail
    go_at_call 87
    refine HLA.out.mono ?_
    rintro e w' ⟨rfl,rfl⟩
    obtain⟨g1,rfl,em1,hgb1,hgl1,hcell1⟩:=aC HO1.out (by omega)
    have d1:=hcell1 _ _ (dD com[k] j hj).2
    subst em1
    clear hcell1 HLA
    go_wp2
    go_ret2
    exact⟨by rw[HAT'.out];rfl,rfl⟩
def ez (p:Value)(S:br):eW:=fun w f=>∃ g wv fv,p=.pointer (some ⟨g,0,none⟩)∧
 bY (eY g #[.int .i64 S.num,.int .i64 S.snap,wv,fv] 100) (bY (bn 107 2 wv S.wr.length (aP S.wr)) (bn 9 1 fv S.fired.length (S.fired.map Value.string))) w f
theorem ez.framed (p:Value)(S:br):bT (ez p S):=by
 rintro T w w' f ⟨g,wv,fv,e,h⟩ hf hs
 exact⟨g,wv,fv,e,bY.framed (eY.framed _ _ _) (bY.framed (bn.framed _ _ _ _ _) (bn.framed _ _ _ _ _)) h hf hs⟩
theorem ez.within (p:Value)(S:br):bW (ez p S):=by
 rintro w f ⟨g,wv,fv,e,h⟩
 exact bY.within (eY.within _ _ _) (bY.within (bn.within _ _ _ _ _) (bn.within _ _ _ _ _)) h
theorem ez.open {p:Value}{S:br}{w:World}{f:List Nat}(h:ez p S w f):∃ g a1 m1 c1 a2 m2 c2,p=.pointer (some ⟨g,0,none⟩)∧w.heap[g]?=some (.cells #[.int .i64 S.num,.int .i64 S.snap,.slice a1 m1 c1,.slice a2 m2 c2] 100 (0,0))∧
  w.ownsRow 0 107 2 (.slice a1 m1 c1) S.wr.length (aP S.wr)∧w.ownsRow 0 9 1 (.slice a2 m2 c2) S.fired.length (S.fired.map Value.string)∧g∈f:=by
 obtain⟨g,wv,fv,e,f1,f2,⟨hb,rfl⟩,⟨f3,f4,⟨h1,rfl⟩,⟨h2,rfl⟩,rfl⟩,rfl⟩:=h
 obtain⟨a1,m1,c1,rfl⟩:=an h1
 obtain⟨a2,m2,c2,rfl⟩:=an h2
 exact⟨g,a1,m1,c1,a2,m2,c2,e,hb,h1,h2,by simp⟩
def zd (opn:List br)(ps:List Value)(n:Int)(u:Value):Prop:=
 (∃ (k:Nat) (h1:k<opn.length) (h2:k<ps.length),opn[k].num=n∧(∀ j (h:j<opn.length),j<k→opn[j].num≠n)∧u=ps[k])∨((∀ j (h:j<opn.length),opn[j].num≠n)∧u=.pointer none)
theorem dR (y:Nat)(opn:List br)(ps:List Value)(fs:List Nat)(n:Int)(a:Option Addr)(m cp:Nat)(w:World)
  (hc:w.cell? ⟨y,4,none⟩=some (.slice a m cp)) (hrow:w.ownsRow 0 96 1 (.slice a m cp) opn.length ps) (hses:aB ez ps opn w fs) (hlen:opn.length≤9223372036854775807) :
  Calls Tryz.prog 44 #[.pointer (some ⟨y,0,none⟩),.int .i64 n] w fun e w'=>(∃ u,e=.returned u∧zd opn ps n u)∧w'=w:=by
 have em:=au hrow
 subst em
 have hpl:=aB.len hses
 have HS:=af hses
 clear hses
 go_enter Tryz.func44,Tryz.ntmps44
 go_wp2_with fail
 go_loop [5] (fun t=>∃ k:Nat,k≤opn.length∧t=.int .i64 k∧∀ j (h:j<opn.length),j<k→opn[j].num≠n) (fun t=>opn.length - (intOf t).toNat)
 case atStart=>exact⟨0,Nat.zero_le _,rfl,fun j _ h=>by omega⟩
 case round=>
  obtain⟨k,hk,rfl,hno⟩:=hrel
  have HN:=af hno
  clear hno
  by_cases hlt:k<opn.length
  ·have hlt2:k<ps.length:=by omega
   obtain⟨g,rfl,_,hgb,hgl,hcell⟩:=aC hrow (by omega)
   obtain⟨f1,hse,_⟩:=aB.get HS.out k hlt2 hlt
   obtain⟨g1,a1,m1,c1,a2,m2,c2,hp,hb,_,_,_⟩:=hse.open
   have d0:w.cell? ⟨g,k,none⟩=some (.pointer (some ⟨g1,0,none⟩)):=by rw[←hp];exact hcell k _ (List.getElem?_eq_getElem hlt2)
   have d1:w.cell? ⟨g1,0,none⟩=some (.int .i64 opn[k].num):=by simp[World.cell?,hb]
   have HP:=af hp
   clear hcell hse hb hp
   obtain⟨nn,hnn⟩:∃ nn,nn=opn[k].num:=⟨_,rfl⟩
   rw[←hnn] at d1
   have HNN:=af hnn
   clear hnn
   by_cases he:nn=n
   ·have q:(nn==n)=true:=by simpa using he
    have HF:Hid (zd opn ps n (.pointer (some ⟨g1,0,none⟩))):=af (.inl ⟨k,hlt,hlt2,by rw[←HNN.out];exact he,HN.out,HP.out.symm⟩)
    clear he
    go_wp2
    go_ret
    exact⟨⟨_,rfl,HF.out⟩,rfl⟩
   ·have q:(nn==n)=false:=by simpa using he
    have HN':Hid (∀ j (h:j<opn.length),j<k+1→opn[j].num≠n):=af (by
     intro j hj hjk
     by_cases e:j=k
     ·subst e;rw[←HNN.out];exact he
     ·exact HN.out j hj (by omega))
    clear he
    go_wp2
    go_round
    case rel=>exact⟨k+1,by omega,by go_num,HN'.out⟩
    case measure=>simp[intOf];omega
  ·go_wp2
   go_ret
   exact⟨⟨_,rfl,.inr ⟨fun j hj=>HN.out j hj (by omega),rfl⟩⟩,rfl⟩
def ax (k:Nat):ByteArray:=strOfNums [97+(k:Int) / 10,48+(k:Int) % 10]
theorem vq (k:Nat)(w:World)(hk:k<60):
  Calls Tryz.prog 84 #[.int .i64 k] w fun e w'=>e=.returned (.string (ax k))∧w.grownBy w' none:=by
 have h1:(97:Int)+(k:Int) / 10≤255:=by omega
 have h2:(48:Int)+(k:Int) % 10≤255:=by omega
 have hcv:=run_convert_bytes_arg (P:=Tryz.prog) (w.alloc (.cells #[.int .u8 (97+(k:Int) / 10),.int .u8 (48+(k:Int) % 10)] 5)) 160 5 Tryz.underlying160 Tryz.underlying5 w.heap.size 0 2 2 [97+(k:Int) / 10,48+(k:Int) % 10] rfl (by
  intro i hi
  rw[World.cell?_alloc_at _ _ _ _ rfl]
  match i,hi with
  |0,_=>rfl
  |1,_=>rfl) 9 Tryz.underlying9
 go_enter Tryz.func84,Tryz.ntmps84
 go_wp2
 go_ret
 exact⟨rfl,ab (ag _ _) _⟩
def dq (com:List (List Wr))(S:br)(c:ByteArray):Int×Int:=match bc c S.wr with
 |some k=>((S.wr.getD k (ByteArray.empty,0)).2,(k:Int)+1)
 |none=>((dK com c S.snap.toNat).1,(dK com c S.snap.toNat).2 - com.length - 1)
theorem nM (com:List (List Wr))(c:ByteArray):∀ t,0≤(dK com c t).2∧(dK com c t).2≤t
 |0=>by simp[dK]
 |t+1=>by
  have:=nM com c t
  unfold dK
  split
  ·simp;omega
  ·omega
theorem vw (y:Nat)(com:List (List Wr))(cs:List Value)(fc:List Nat)(S:br)(p:Value)(fp:List Nat)(c:ByteArray)(a:Option Addr)(m cp:Nat)(w:World)
  (hc:w.cell? ⟨y,2,none⟩=some (.slice a m cp)) (hrow:w.ownsRow 0 97 1 (.slice a m cp) com.length cs) (hcom:aB im cs com w fc) (hses:ez p S w fp) (hsn:0≤S.snap) (hst:S.snap≤com.length) (hlen:com.length≤9223372036854775806) (hl:∀ l∈com,l.length≤9223372036854775807) (hwl:S.wr.length≤9223372036854775806) :
  Calls Tryz.prog 85 #[.pointer (some ⟨y,0,none⟩),p,.string c] w fun e w'=>e=.returned (.tuple #[.int .i64 (dq com S c).1,.int .i64 (dq com S c).2])∧∃ n,w'=w.drewN n:=by
 obtain⟨g1,a1,m1,c1,a2,m2,c2,rfl,hb,ho1,ho2,_⟩:=hses.open
 have d1:w.cell? ⟨g1,1,none⟩=some (.int .i64 S.snap):=by simp[World.cell?,hb]
 have d2:w.cell? ⟨g1,2,none⟩=some (.slice a1 m1 c1):=by simp[World.cell?,hb]
 have HLA:=af (nh S.wr c a1 m1 c1 0 w (by omega) ho1)
 obtain⟨r,hr⟩:∃ r,r=dq com S c:=⟨_,rfl⟩
 rw[←hr]
 have HR:=af hr
 have HO1:=af ho1
 clear hr hb ho2 hses ho1
 cases hla:bc c S.wr with
 |some k=>
  have hk:=fP hla
  have e2:eM S.wr c=k:=by unfold eM;rw[hla]
  rw[e2] at HLA
  have HV:Hid (r=(S.wr[k].2,(k:Int)+1)):=af (by rw[HR.out];unfold dq;rw[hla];simp[List.getD,hk])
  clear hla e2 hcom
  go_enter Tryz.func85,Tryz.ntmps85
  go_wp2_with fail
  go_at_call 87
  refine HLA.out.mono ?_
  rintro e w' ⟨rfl,rfl⟩
  obtain⟨g2,rfl,em1,hgb1,hgl1,hcell1⟩:=aC HO1.out (by omega)
  have d3:=hcell1 _ _ (dD S.wr k hk).2
  subst em1
  clear hcell1 HLA
  go_wp2
  go_ret2
  exact⟨by rw[HV.out];rfl,0,rfl⟩
 |none=>
  have e2:eM S.wr c=-1:=by unfold eM;rw[hla]
  rw[e2] at HLA
  obtain⟨st,hst'⟩:∃ st:Nat,S.snap=st:=⟨S.snap.toNat,by omega⟩
  have HV:Hid (r=((dK com c st).1,(dK com c st).2 - com.length - 1)):=af (by rw[HR.out];unfold dq;rw[hla,hst'];rfl)
  rw[hst'] at d1
  have HAT:=af (tK y com cs fc c st a m cp w hc hrow hcom (by omega) (by omega) hl)
  have hbd:=nM com c st
  have em:=au hrow
  subst em
  obtain⟨v0,hv0⟩:∃ v0,v0=(dK com c st).1:=⟨_,rfl⟩
  obtain⟨t0,ht0⟩:∃ t0,t0=(dK com c st).2:=⟨_,rfl⟩
  rw[←hv0,←ht0] at HV HAT
  rw[←ht0] at hbd
  have hstl:st≤com.length:=by omega
  clear hla e2 hcom hv0 ht0 hst' hsn hst
  go_enter Tryz.func85,Tryz.ntmps85
  go_wp2_with fail
  go_at_call 87
  refine HLA.out.mono ?_
  rintro e w' ⟨rfl,rfl⟩
  go_wp2_with fail
  go_at_call 59
  refine HAT.out.mono ?_
  rintro e w' ⟨rfl,rfl⟩
  clear HLA HAT
  go_wp2_with fail
  go_quiet ((fail))
  go_wp2
  go_ret2
  exact⟨by rw[HV.out];rfl,_,rfl⟩
def j5 (com:List (List Wr))(S:br)(k:Nat):Option ByteArray:=
 if 0≤(dq com S (ax k)).1 then some (ax k++strOfNums [48+(dq com S (ax k)).1]) else none
def cF (com:List (List Wr))(S:br)(n:Nat):List ByteArray:=(List.range n).filterMap (j5 com S)
theorem uo (com:List (List Wr))(S:br)(n:Nat):cF com S (n+1)=cF com S n++(j5 com S n).toList:=by
 unfold cF
 rw[List.range_succ,List.filterMap_append]
 cases h:j5 com S n <;> simp[h]
theorem sy (com:List (List Wr))(S:br)(n:Nat):(cF com S n).length≤n:=by
 have:=List.length_filterMap_le (j5 com S) (List.range n)
 simpa [cF] using this
theorem xp (x:Int):(strOfNums [x]).size=1:=rfl
theorem yl (k:Nat):(ax k).size=2:=rfl
theorem im.framed (v:Value)(l:List Wr):bT (im v l):=bn.framed _ _ _ _ _
structure io (y:Nat)(com:List (List Wr))(S:br)(p:Value)(a:Option Addr)(cp:Nat)(cs:List Value)(fc fp:List Nat)(w:World):Prop where
 cell:w.cell? ⟨y,2,none⟩=some (.slice a com.length cp)
 row:w.ownsRow 0 97 1 (.slice a com.length cp) com.length cs
 com:aB im cs com w fc
 ses:ez p S w fp
theorem io.kept {y:Nat}{com:List (List Wr)}{S:br}{p:Value}{a:Option Addr}{cp:Nat}{cs:List Value}{fc fp:List Nat}{w w':World}(h:io y com S p a cp cs fc fp w)(hg:w.grownBy w' none):io y com S p a cp cs fc fp w':=
 ⟨hg.cell h.cell (by simp),aq h.row hg (fun g hg=>by cases hg),aB.framed im.framed _ _ h.com (aK hg) (by simp),ez.framed _ _ h.ses (aK hg) (by simp)⟩
theorem se (y:Nat)(com:List (List Wr))(S:br)(p:Value)(a:Option Addr)(cp:Nat)(cs:List Value)(fc fp:List Nat)(w:World)
  (hE:io y com S p a cp cs fc fp w) (hsn:0≤S.snap) (hst:S.snap≤com.length) (hlen:com.length≤9223372036854775806) (hl:∀ l∈com,l.length≤9223372036854775807) (hwl:S.wr.length≤9223372036854775806) (hv:∀ c,(dq com S c).1≤9) :
  Calls Tryz.prog 51 #[.pointer (some ⟨y,0,none⟩),p] w fun e w'=>∃ v,e=.returned v∧w'.ownsRow w.heap.size 9 1 v (cF com S 60).length ((cF com S 60).map Value.string)∧w.grownBy w' none:=by
 obtain⟨i0,hi0,hz0,hz1,hz2⟩:=info_parts Tryz.info9
 have HE:=af hE
 have HSEE:Hid (∀ (k:Nat) (W:World),io y com S p a cp cs fc fp W→Calls Tryz.prog 85 #[.pointer (some ⟨y,0,none⟩),p,.string (ax k)] W fun e w'=>e=.returned (.tuple #[.int .i64 (dq com S (ax k)).1,.int .i64 (dq com S (ax k)).2])∧∃ n,w'=W.drewN n):=
  af (fun k W h=>vw y com cs fc S p fp (ax k) a _ cp W h.cell h.row h.com h.ses hsn hst hlen hl hwl)
 have HVAL:=af hv
 clear hE hsn hst hlen hl hwl hv
 go_enter Tryz.func51,Tryz.ntmps51
 go_wp2_with fail
 go_loopw [5,6] (fun v t wr=>∃ k:Nat,k≤60∧t=.int .i64 k∧wr.ownsRow w.heap.size 9 1 v (cF com S k).length ((cF com S k).map Value.string)∧w.grownBy wr none) (fun _ t _=>60 - (intOf t).toNat)
 case atStart=>exact⟨0,by omega,rfl,World.ownsRow_nil _ _ _ _,ag _ _⟩
 case round=>
  obtain⟨k,hk,rfl,hown,hg⟩:=hrel
  by_cases hlt:k<60
  ·have HCE:=af (vq k wr hlt)
   have HFS:=af (uo com S k)
   have hfl:=sy com S k
   go_wp2_with fail
   go_at_call 84
   refine HCE.out.mono ?_
   rintro e w1 ⟨rfl,hg1⟩
   have HSE1:=af (HSEE.out k w1 ((HE.out.kept hg).kept hg1))
   obtain⟨ct,hct⟩:∃ ct,ct=ax k:=⟨_,rfl⟩
   rw[←hct] at HSE1 ⊢
   obtain⟨v0,hv0⟩:∃ v0,v0=(dq com S ct).1:=⟨_,rfl⟩
   obtain⟨t0,ht0⟩:∃ t0,t0=(dq com S ct).2:=⟨_,rfl⟩
   have hv9:=HVAL.out ct
   rw[←hv0] at hv9
   rw[←hv0,←ht0] at HSE1
   have hcs:ct.size=2:=by rw[hct];rfl
   have HFA:Hid (j5 com S k=if 0≤v0 then some (ct++strOfNums [48+v0]) else none):=af (by unfold j5;rw[←hct,←hv0])
   clear hct hv0 ht0 HCE
   go_wp2_with fail
   go_at_call 85
   refine HSE1.out.mono ?_
   rintro e w2 ⟨rfl,n2,hw2⟩
   have hg2:w1.grownBy w2 none:=by rw[hw2];exact al (ag _ _) _
   have hg12:=ae hg (ae hg1 hg2)
   have hown2:=aq hown (ae hg1 hg2) (fun g hg=>by cases hg)
   have hsz:=hg12.size
   clear hw2 HSE1
   by_cases h0:0≤v0
   ·have hcv:=run_convert_bytes_arg (P:=Tryz.prog) (w2.alloc (.cells #[.int .u8 (48+v0)] 5)) 160 5 Tryz.underlying160 Tryz.underlying5 w2.heap.size 0 1 1 [48+v0] rfl (by
     intro i hi
     rw[World.cell?_alloc_at _ _ _ _ rfl]
     match i,hi with
     |0,_=>rfl) 9 Tryz.underlying9
    have hs1:(strOfNums [48+v0]).size=1:=rfl
    have HF':Hid (cF com S (k+1)=cF com S k++[ct++strOfNums [48+v0]]):=af (by rw[HFS.out,HFA.out,if_pos h0];rfl)
    obtain⟨nt,hnt⟩:∃ nt,nt=strOfNums [48+v0]:=⟨_,rfl⟩
    rw[←hnt] at hcv hs1 HF'
    clear hnt hg hg1 hg2 hown
    go_wp2_with (first|(at_builtin;refine wpList_append_own _ rfl (.tmp 25) (.tmp 33) 98 rfl (w.heap.size) 9 i0 (.string ByteArray.empty) 1 16 Tryz.underlying98 hi0 hz0 hz1 hz2 rfl (by decide) _ _ _ rfl ((hown2.alloc _).alloc _) _ 1 1 [.string (ct++nt)] rfl rfl ?c1 ?c2 ?c3 ?c4 ?c5 ?_))
    case c1=>intro j u hj;exact ns hj
    case c2=>intro u hu;simp at hu;subst hu;rfl
    case c3=>unfold maxLen;omega
    case c4=>omega
    case c5=>simp;omega
    ·intro v' w3 hown3 hg3 _
     have hown3':w3.ownsRow w.heap.size 9 1 v' (cF com S (k+1)).length ((cF com S (k+1)).map Value.string):=by rw[HF'.out];simpa using hown3
     have hg3':w.grownBy w3 none:=aL (ab (ab hg12 _) _) hg3 (fun g hg=>(hown2.lt g hg).1)
     clear hown3 hg3 hown2 hg12 hcv
     go_wp2
     go_roundw
     case rel=>exact⟨k+1,by omega,by go_num,hown3',hg3'⟩
     case measure=>simp[intOf];omega
   ·have HF':Hid (cF com S (k+1)=cF com S k):=af (by rw[HFS.out,HFA.out,if_neg h0];simp)
    clear hg hg1 hg2 hown
    go_wp2
    go_roundw
    case rel=>exact⟨k+1,by omega,by go_num,by rw[HF'.out];exact hown2,hg12⟩
    case measure=>simp[intOf];omega
  ·have e:k=60:=by omega
   subst e
   go_wp2
   go_ret
   exact⟨_,rfl,hown,hg⟩
theorem uY {com:List (List Wr)}{S:br}{n:Nat}:∀ x∈cF com S n,x.size=3:=by
 intro x hx
 unfold cF at hx
 obtain⟨k,_,hk⟩:=List.mem_filterMap.mp hx
 unfold j5 at hk
 split at hk
 ·cases hk;rw[ByteArray.size_append,yl,xp]
 ·cases hk
theorem qe:∀ (l:List ByteArray)(z:ByteArray) ,(∀ x∈l,x.size=3)→(l.foldl (·++·) z).size=z.size+3*l.length
 |[],z,_=>by simp
 |x::l,z,h=>by
  rw[List.foldl_cons,qe l (z++x) (fun y hy=>h y (by simp[hy])),ByteArray.size_append,h x (by simp)]
  simp
  omega
theorem vj (l:List ByteArray)(h:∀ x∈l,x.size=3):(ce l).size=3*l.length:=by
 unfold ce
 rw[qe l _ h]
 simp
structure bm where
 room:Int
 com:List (List Wr)
 kept:List (Int×Wr)
 opn:List br
 opened:Int
def cX (l:List (Int×Wr)):List Value:=l.flatMap fun p=>[.int .i64 p.1,.string p.2.1,.int .i64 p.2.2]
def bJ (Q:Value→eW)(y:Nat)(E:bm):eW:=fun w f=>∃ rv cv kv ov cs ps,
 bY (eY y #[rv,.int .i64 E.room,cv,kv,ov,.int .i64 E.opened] 40) (bY (Q rv) (bY (bn 97 1 cv E.com.length cs) (bY (aB im cs E.com) (bY (bn 124 3 kv E.kept.length (cX E.kept)) (bY (bn 96 1 ov E.opn.length ps) (aB ez ps E.opn)))))) w f
theorem bJ.framed {Q:Value→eW}(hQ:∀ v,bT (Q v))(y:Nat)(E:bm):bT (bJ Q y E):=by
 rintro T w w' f ⟨rv,cv,kv,ov,cs,ps,h⟩ hf hs
 exact⟨rv,cv,kv,ov,cs,ps,bY.framed (eY.framed _ _ _) (bY.framed (hQ rv) (bY.framed (bn.framed _ _ _ _ _) (bY.framed (aB.framed im.framed _ _) (bY.framed (bn.framed _ _ _ _ _) (bY.framed (bn.framed _ _ _ _ _) (aB.framed ez.framed _ _)))))) h hf hs⟩
structure kz (E:bm):Prop where
 comLen:E.com.length≤9223372036854775806
 comEach:∀ l∈E.com,l.length≤9223372036854775806
 comVal:∀ l∈E.com,∀ q∈l,-1≤q.2∧q.2≤9
 opnLen:E.opn.length≤8
 snap:∀ S∈E.opn,0≤S.snap∧S.snap≤E.com.length
 wrLen:∀ S∈E.opn,S.wr.length≤9223372036854775806
 wrVal:∀ S∈E.opn,∀ q∈S.wr,-1≤q.2∧q.2≤9
theorem sT {com:List (List Wr)}(h:∀ l∈com,∀ q∈l,-1≤q.2∧q.2≤9)(c:ByteArray):∀ t,t≤com.length→-1≤(dK com c t).1∧(dK com c t).1≤9
 |0,_=>by simp[dK]
 |t+1,ht=>by
  unfold dK
  have hlt:t<com.length:=by omega
  have hgd:com.getD t []=com[t]:=by simp[List.getD,hlt]
  rw[hgd]
  split
  ·rename_i k hk
   have hkl:=fP hk
   have:com[t].getD k (ByteArray.empty,0)=com[t][k]:=by simp[List.getD,hkl]
   rw[this]
   exact h _ (List.getElem_mem hlt) _ (List.getElem_mem hkl)
  ·exact sT h c t (by omega)
theorem kz.sees {E:bm}(h:kz E){S:br}(hS:S∈E.opn)(c:ByteArray):-1≤(dq E.com S c).1∧(dq E.com S c).1≤9:=by
 unfold dq
 split
 ·rename_i k hk
  have hkl:=fP hk
  have:S.wr.getD k (ByteArray.empty,0)=S.wr[k]:=by simp[List.getD,hkl]
  rw[this]
  exact h.wrVal S hS _ (List.getElem_mem hkl)
 ·have:=h.snap S hS
  exact sT h.comVal c _ (by omega)
def du (l:List br)(n:Int):Option br:=l.find? fun S=>S.num==n
theorem fX {l:List br}{n:Int}{k:Nat}(hk:k<l.length)(h1:l[k].num=n)(h2:∀ j (h:j<l.length),j<k→l[j].num≠n):du l n=some l[k]:=by
 unfold du
 rw[List.find?_eq_some_iff_getElem]
 exact⟨by simpa using h1,k,hk,rfl,fun j hj=>by simpa using h2 j (by omega) hj⟩
theorem iX {l:List br}{n:Int}(h2:∀ j (h:j<l.length),l[j].num≠n):du l n=none:=by
 unfold du
 rw[List.find?_eq_none]
 intro S hS
 obtain⟨j,hj,rfl⟩:=List.mem_iff_getElem.mp hS
 simpa using h2 j hj
theorem Bc (Q:Value→eW)(y:Nat)(E:bm)(f:List Nat)(n:Int)(w:World)(hE:bJ Q y E w f)(hW:kz E):
  Calls Tryz.prog 26 #[.pointer (some ⟨y,0,none⟩),.int .i64 n] w fun e w'=>
   e=.returned (match du E.opn n with|some S=>.tuple #[.string (ce (cF E.com S 60)),.int .i64 0]|none=>.tuple #[.string ByteArray.empty,.int .i64 6])∧w.grownBy w' none:=by
 obtain⟨rv,cv,kv,ov,cs,ps,f1,f2,⟨hb,rfl⟩,⟨f3,f4,_,⟨f5,f6,⟨hcr,_⟩,⟨f7,f8,hcom,⟨f9,f10,_,⟨f11,f12,⟨hor,_⟩,hses,_⟩,_⟩,_⟩,_⟩,_⟩,_⟩:=hE
 obtain⟨ac,mc,cc,rfl⟩:=an hcr
 obtain⟨ao,mo,co,rfl⟩:=an hor
 have emc:=au hcr
 subst emc
 have d2:w.cell? ⟨y,2,none⟩=some (.slice ac E.com.length cc):=by simp[World.cell?,hb]
 have d4:w.cell? ⟨y,4,none⟩=some (.slice ao mo co):=by simp[World.cell?,hb]
 have HF:=af (dR y E.opn ps f12 n ao mo co w d4 hor hses (by have:=hW.opnLen;omega))
 have hpl:=aB.len hses
 have HSES:=af hses
 have HCOM:=af hcom
 clear hb hses hcom d4 hor
 obtain⟨res,hres⟩:∃ res,res=(match du E.opn n with|some S=>Value.tuple #[.string (ce (cF E.com S 60)),.int .i64 0]|none=>Value.tuple #[.string ByteArray.empty,.int .i64 6]):=⟨_,rfl⟩
 rw[←hres]
 have HRES:=af hres
 clear hres
 go_enter Tryz.func26,Tryz.ntmps26
 go_wp2_with fail
 go_at_call 44
 refine HF.out.mono ?_
 rintro e w' ⟨⟨u,rfl,hans⟩,rfl⟩
 rcases hans with ⟨k,h1,h2,hn1,hn2,rfl⟩|⟨hn,rfl⟩
 ·have HRE:Hid (res=Value.tuple #[.string (ce (cF E.com E.opn[k] 60)),.int .i64 0]):=af (by rw[HRES.out,fX h1 hn1 hn2])
  obtain⟨fp,hse,_⟩:=aB.get HSES.out k h2 h1
  obtain⟨g1,_,_,_,_,_,_,hp,_⟩:=hse.open
  have hS:E.opn[k]∈E.opn:=List.getElem_mem h1
  have HFA:=af (se y E.com E.opn[k] ps[k] ac cc cs f7 fp _ ⟨d2,hcr,HCOM.out,hse⟩ (hW.snap _ hS).1 (hW.snap _ hS).2 hW.comLen (fun l hl=>by have:=hW.comEach l hl;omega) (hW.wrLen _ hS) (fun c=>(hW.sees hS c).2))
  rw[hp] at HFA ⊢
  obtain⟨F,hF⟩:∃ F,F=cF E.com E.opn[k] 60:=⟨_,rfl⟩
  have hFl:F.length≤60:=by rw[hF];exact sy _ _ _
  have HFs:Hid (∀ x∈F,x.size=3):=af (by rw[hF];exact uY)
  rw[←hF] at HFA HRE
  clear hF hse hp hn1 hn2 hcr d2 HF
  go_wp2_with fail
  go_at_call 51
  refine HFA.out.mono ?_
  rintro e w1 ⟨v,rfl,hown,hg1⟩
  obtain⟨a,m,c,rfl⟩:=an hown
  have em:=au hown
  subst em
  clear HFA
  go_wp2_with fail
  go_loop [8,9] (fun t i=>∃ k:Nat,k≤F.length∧i=.int .i64 k∧t=.string (ce (F.take k))) (fun _ i=>F.length - (intOf i).toNat)
  case atStart=>exact⟨0,Nat.zero_le _,rfl,rfl⟩
  case round=>
   obtain⟨j,hj,rfl,rfl⟩:=hrel
   by_cases hlt:j<F.length
   ·obtain⟨g,rfl,_,hgb,hgl,hcell⟩:=aC hown (by omega)
    have d0:w1.cell? ⟨g,j,none⟩=some (.string F[j]):=hcell j _ (by simp[hlt])
    have HJ:Hid (ce (F.take (j+1))=ce (F.take j)++F[j]):=af (by rw[List.take_succ_eq_append_getElem hlt,gZ])
    have hs1:(ce (F.take j)).size≤180:=by
     rw[vj _ (fun x hx=>HFs.out x (List.mem_of_mem_take hx))]
     simp;omega
    have hs2:(F[j]).size=3:=HFs.out _ (List.getElem_mem hlt)
    obtain⟨jt,hjt⟩:∃ jt,jt=ce (F.take j):=⟨_,rfl⟩
    obtain⟨fj,hfj⟩:∃ fj,fj=F[j]:=⟨_,rfl⟩
    rw[←hjt] at hs1 ⊢
    rw[←hjt,←hfj] at HJ
    rw[←hfj] at hs2 d0
    clear hjt hfj hcell
    go_wp2
    go_round
    case rel=>exact⟨j+1,by omega,by go_num,by rw[HJ.out]⟩
    case measure=>simp[intOf];omega
   ·go_wp2
    go_ret2
    have e:F.take j=F:=List.take_of_length_le (by omega)
    rw[e]
    exact⟨by rw[HRE.out];rfl,hg1⟩
 ·have HRE:Hid (res=Value.tuple #[.string ByteArray.empty,.int .i64 6]):=af (by rw[HRES.out,iX hn])
  clear hn HF
  go_wp2
  go_ret2
  exact⟨by rw[HRE.out];rfl,ag _ _⟩
end Go.Proofs.YthlhbjnkohinmaaGreat
