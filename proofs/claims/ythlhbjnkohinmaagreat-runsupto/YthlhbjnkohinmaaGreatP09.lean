import Derived.Test.YthlhbjnkohinmaaGreatP00
import Derived.Laws.BytesArg
import Derived.OwnWalk
import Derived.OneCell
import Derived.Deep.RegionLaw
import Derived.Deep.MidRow
import Derived.Handy
namespace Go.Proofs.YthlhbjnkohinmaaGreat
set_option maxRecDepth 100000
set_option maxHeartbeats 8000000
open Go.RowKit
def eE (s:ByteArray):Bool:=s.size==2&&aR (bt s 0)&&bN (bt s 1)
def eR (s:ByteArray):Bool:=s.size==3&&aR (bt s 0)&&bN (bt s 1)&&bN (bt s 2)
def ch (l:List ByteArray):ByteArray:=l.foldl (·++·) ByteArray.empty
theorem ic (l:List ByteArray)(x:ByteArray):ch (l++[x])=ch l++x:=by simp[ch]
abbrev PW:=Option (Option Int)
structure aJ where
 num:Int
 snap:Int
 made:Int
 wr:Nat→PW
 tm:Nat→Int
 mks:Option Nat
abbrev Ej:=(Value×Int)×ByteArray×List (Nat×List Nat×List Nat)
structure ap where
 src:Ej
 opened:Int
 ses:Nat→aJ
 latest:Int
 last:Nat→Int
 hist:Nat→List (Int×Option Int)
def ap.room (X:ap):Int:=X.src.1.2
def keptN (X:ap):Nat→Nat
 |0=>0
 |n+1=>keptN X n+(X.hist n).length
def cw (S:aJ):Nat→Nat
 |0=>0
 |n+1=>cw S n+(if (S.wr n).isSome then 1 else 0)
theorem qi (S:aJ):∀ n,cw S n≤n
 |0=>Nat.le_refl 0
 |n+1=>by
  have:=qi S n
  show cw S n+(if (S.wr n).isSome then 1 else 0)≤n+1
  split <;> omega
theorem eJ {X Y:ap}(h:Y.hist=X.hist):∀ n,keptN Y n=keptN X n
 |0=>rfl
 |n+1=>by unfold keptN;rw[eJ h n,h]
theorem kj (X:ap):∀ {m n:Nat},m≤n→keptN X m≤keptN X n
 |m,0,h=>by
  have:m=0:=by omega
  subst this
  exact Nat.le_refl _
 |m,n+1,h=>by
  by_cases e:m=n+1
  ·subst e;exact Nat.le_refl _
  ·have:=kj X (m:=m) (n:=n) (by omega)
   show keptN X m≤keptN X n+(X.hist n).length
   omega
def aJ.zero:aJ:=⟨0,0,0,fun _=>none,fun _=>0,none⟩
def aJ.new (n t:Int):aJ:=⟨n,t,0,fun _=>none,fun _=>0,none⟩
def cI {α:Type}(f:Nat→α)(k:Nat)(v:α):Nat→α:=fun j=>if j=k then v else f j
theorem aW {α:Type}(f:Nat→α)(k:Nat)(v:α):cI f k v k=v:=by simp[cI]
theorem bF {α:Type}(f:Nat→α)(k:Nat)(v:α){j:Nat}(h:j≠k):cI f k v j=f j:=by simp[cI,h]
def ap.setSes (X:ap)(k:Nat)(s:aJ):ap:={ X with ses:=cI X.ses k s }
def aJ.put (S:aJ)(c:Nat)(v:Option Int):aJ:={ S with made:=S.made+1,wr:=cI S.wr c (some v),tm:=cI S.tm c (S.snap+(S.made+1)) }
def ba (X:ap)(n:Int):Option Nat:=(List.range 8).find? fun k=>(X.ses k).num==n
def aM (X:ap)(n:Int):Option Nat:=if n<1 then none else ba X n
theorem bx {X:ap}{n:Int}{k:Nat}(h:ba X n=some k):k<8∧(X.ses k).num=n:=by
 unfold ba at h
 have h1:=List.mem_of_find?_eq_some h
 have h2:=List.find?_some h
 exact⟨by simpa using h1,by simpa using h2⟩
theorem kY {X:ap}{n:Int}(h:ba X n=none):∀ k,k<8→(X.ses k).num≠n:=by
 unfold ba at h
 rw[List.find?_eq_none] at h
 intro k hk
 simpa using h k (by simpa using hk)
def a8 (X:ap):(Int×Int)×ap:=match ba X 0 with
 |none=>((0,7),X)
 |some k=>((X.opened+1,0),{ X with opened:=X.opened+1,ses:=cI X.ses k (.new (X.opened+1) X.latest) })
def dN (s:ByteArray):Nat:=((bt s 0 - 97)*10+(bt s 1 - 48)).toNat
def cq (X:ap)(n:Int)(s:ByteArray):Int×ap:=match aM X n with
 |none=>(6,X)
 |some k=>if eR s then (0,X.setSes k ((X.ses k).put (dN s) (some (bt s 2 - 48)))) else (8,X)
def aX (X:ap)(n:Int)(s:ByteArray):Int×ap:=match aM X n with
 |none=>(6,X)
 |some k=>if eE s then (0,X.setSes k ((X.ses k).put (dN s) none)) else (8,X)
def i8 (h:List (Int×Option Int))(t:Int):Option Int:=match h.reverse.find? (fun p=>decide (p.1≤t)) with
 |some p=>p.2
 |none=>none
def aN (h:List (Int×Option Int))(t:Int):Int×Option Int:=match h.reverse.find? (fun p=>decide (p.1≤t)) with
 |some p=>p
 |none=>(0,none)
theorem gn (h:List (Int×Option Int))(t:Int):(aN h t).2=i8 h t:=by
 unfold aN i8
 cases h.reverse.find? (fun p=>decide (p.1≤t)) <;> rfl
def jl (X:ap)(k c:Nat):Option Int:=match (X.ses k).wr c with
 |some v=>v
 |none=>i8 (X.hist c) (X.ses k).snap
def cA (c:Nat)(v:Int):ByteArray:=strOfNums [97+(c:Int) / 10,48+(c:Int) % 10,48+v]
def oI (X:ap)(k:Nat):ByteArray:=ch ((List.range 60).filterMap fun c=>(jl X k c).map (cA c))
def fM (X:ap)(n:Int):ByteArray×Int:=match aM X n with
 |none=>(ByteArray.empty,6)
 |some k=>(oI X k,0)
def aY (X:ap)(n:Int):Int×ap:=match aM X n with
 |none=>(6,X)
 |some k=>(0,X.setSes k .zero)
def kH (S:aJ):Bool:=(List.range 60).any fun c=>(S.wr c).isSome
def aJ.ok (S:aJ):Prop:=0≤S.made∧decide (0<S.made)=kH S
def clash (X:ap)(S:aJ):Bool:=(List.range 60).any fun c=>(S.wr c).isSome&&decide (X.last c>S.snap)
def ap.commit (X:ap)(S:aJ):ap:={ X with
 latest:=X.latest+1
 last:=fun c=>if (S.wr c).isSome then X.latest+1 else X.last c
 hist:=fun c=>match S.wr c with|some v=>X.hist c++[(X.latest+1,v)]|none=>X.hist c }
def jK (X:ap)(n:Int):(Int×Int)×ap:=match aM X n with
 |none=>((0,6),X)
 |some k=>if kH (X.ses k) then (if clash X (X.ses k) then ((0,10),X.setSes k .zero) else ((X.latest+1,0),(X.setSes k .zero).commit (X.ses k))) else ((0,0),X.setSes k .zero)
def iX (p:PW):Bool:=p.isSome
def gX (p:PW):Bool:=match p with|some (some _)=>true|_=>false
def rq (p:PW):Int:=match p with|some (some v)=>v|_=>0
def Fn:Option Nat→Value
 |none=>.slice none 0 0
 |some g=>.slice (some ⟨g,0,none⟩) 9000 9000
structure cJ (w:World)(b o:Nat)(S:aJ):Prop where
 num:w.cell? ⟨b,o,none⟩=some (.int .i64 S.num)
 snap:w.cell? ⟨b,o+1,none⟩=some (.int .i64 S.snap)
 cnt:w.cell? ⟨b,o+2,none⟩=some (.int .i64 S.made)
 made:∀ c,c<60→w.cell? ⟨b,o+3+c*4,none⟩=some (.bool (iX (S.wr c)))
 filled:∀ c,c<60→w.cell? ⟨b,o+3+c*4+1,none⟩=some (.bool (gX (S.wr c)))
 val:∀ c,c<60→w.cell? ⟨b,o+3+c*4+2,none⟩=some (.int .i64 (rq (S.wr c)))
 tm:∀ c,c<60→w.cell? ⟨b,o+3+c*4+3,none⟩=some (.int .i64 (S.tm c))
 mks:w.cell? ⟨b,o+243,none⟩=some (Fn S.mks)
 ok:S.ok
theorem C7 (b o:Nat)(S:aJ)(w:World)(h:cJ w b o S):
  Calls Tryz.prog 53 #[.pointer (some ⟨b,o,none⟩)] w fun e w'=>e=.returned (.bool (kH S))∧w'=w:=by
 have hc:=h.cnt
 have hk:=h.ok.2
 clear h
 obtain⟨r,hr⟩:∃ r,r=kH S:=⟨_,rfl⟩
 obtain⟨m,hm⟩:∃ m,m=S.made:=⟨_,rfl⟩
 rw[←hr,←hm] at hk
 rw[←hm] at hc
 rw[←hr]
 have HK:=af hk
 clear hr hm hk
 go_enter Tryz.func53,Tryz.ntmps53
 go_wp2
 go_ret
 exact⟨by rw[←HK.out];rfl,rfl⟩
def xz (w:World)(x:Nat)(X:ap):Prop:=∀ k,k<8→cJ w x (3+k*244) (X.ses k)
def dp (x:Nat):Option Nat→Value
 |some k=>.pointer (some ⟨x,3+k*244,none⟩)
 |none=>.pointer none
theorem oX {X:ap}{n:Int}{k:Nat}(hk:k<8)(h:(X.ses k).num=n)(hno:∀ j,j<k→(X.ses j).num≠n):ba X n=some k:=by
 unfold ba
 rw[List.find?_eq_some_iff_getElem]
 refine⟨by simpa using h,k,by simpa using hk,by simp,?_⟩
 intro j hj
 simpa using hno j hj
theorem tD {X:ap}{n:Int}(hno:∀ j,j<8→(X.ses j).num≠n):ba X n=none:=by
 unfold ba
 rw[List.find?_eq_none]
 intro j hj
 simpa using hno j (by simpa using hj)
theorem mH (x:Nat)(X:ap)(n:Int)(w:World)(h:xz w x X):
  Calls Tryz.prog 40 #[.pointer (some ⟨x,0,none⟩),.int .i64 n] w fun e w'=>e=.returned (dp x (ba X n))∧w'=w:=by
 have HM:Hid (∀ k,k<8→w.cell? ⟨x,3+k*244,none⟩=some (.int .i64 (X.ses k).num)):=af (fun k hk=>(h k hk).num)
 clear h
 obtain⟨r,hr⟩:∃ r,r=dp x (ba X n):=⟨_,rfl⟩
 rw[←hr]
 have HR:=af hr
 clear hr
 go_enter Tryz.func40,Tryz.ntmps40
 go_wp2_with fail
 go_loop [5] (fun t=>∃ k:Nat,k≤8∧t=.int .i64 k∧∀ j,j<k→(X.ses j).num≠n) (fun t=>8 - (intOf t).toNat)
 case atStart=>exact⟨0,by omega,rfl,fun j h=>by omega⟩
 case round=>
  obtain⟨k,hk,rfl,hno⟩:=hrel
  have HN:=af hno
  clear hno
  by_cases hlt:k<8
  ·have d0:=HM.out k hlt
   obtain⟨nn,hnn⟩:∃ nn,nn=(X.ses k).num:=⟨_,rfl⟩
   rw[←hnn] at d0
   have HNN:=af hnn
   clear hnn
   by_cases he:nn=n
   ·have q:(nn==n)=true:=by simpa using he
    have HU:Hid (r=.pointer (some ⟨x,3+k*244,none⟩)):=af (by rw[HR.out,oX hlt (by rw[←HNN.out];exact he) HN.out];rfl)
    clear he
    go_wp2
    go_ret
    exact⟨by rw[HU.out];rfl,rfl⟩
   ·have q:(nn==n)=false:=by simpa using he
    have HN':Hid (∀ j,j<k+1→(X.ses j).num≠n):=af (by
     intro j hj
     by_cases e:j=k
     ·subst e;rw[←HNN.out];exact he
     ·exact HN.out j (by omega))
    clear he
    go_wp2
    go_round
    case rel=>exact⟨k+1,by omega,by go_num,HN'.out⟩
    case measure=>simp[intOf];omega
  ·have HU:Hid (r=.pointer none):=af (by rw[HR.out,tD (fun j hj=>HN.out j (by omega))];rfl)
   go_wp2
   go_ret
   exact⟨by rw[HU.out];rfl,rfl⟩
theorem eW (x:Nat)(X:ap)(n:Int)(w:World)(h:xz w x X):
  Calls Tryz.prog 41 #[.pointer (some ⟨x,0,none⟩),.int .i64 n] w fun e w'=>e=.returned (dp x (aM X n))∧w'=w:=by
 have HN:=af (mH x X n w h)
 clear h
 obtain⟨r,hr⟩:∃ r,r=dp x (aM X n):=⟨_,rfl⟩
 rw[←hr]
 by_cases hn:n<1
 ·have HU:Hid (r=.pointer none):=af (by rw[hr];unfold aM;rw[if_pos hn];rfl)
  clear hr HN
  go_enter Tryz.func41,Tryz.ntmps41
  go_wp2
  go_ret
  exact⟨by rw[HU.out];rfl,rfl⟩
 ·have hr2:dp x (ba X n)=r:=by rw[hr];unfold aM;rw[if_neg hn]
  rw[hr2] at HN
  clear hr hr2
  go_enter Tryz.func41,Tryz.ntmps41
  go_wp2_with fail
  go_at_call 40
  refine HN.out.mono ?_
  rintro e w' ⟨rfl,rfl⟩
  go_wp2
  go_ret
  exact⟨rfl,rfl⟩
def gJ (s:ByteArray):Value:=if eE s then .tuple #[.int .i64 (dN s),.bool true] else .tuple #[.int .i64 0,.bool false]
def jy (s:ByteArray):Value:=if eR s then .tuple #[.int .i64 (dN s),.int .i64 (bt s 2 - 48),.bool true] else .tuple #[.int .i64 0,.int .i64 0,.bool false]
theorem p8 (s:ByteArray)(w:World)(_hs63:s.size<9223372036854775808):
  Calls Tryz.prog 47 #[.string s] w fun e w'=>e=.returned (gJ s)∧w'=w:=by
 obtain⟨r,hr⟩:∃ r,r=gJ s:=⟨_,rfl⟩
 rw[←hr]
 by_cases hs2:s.size=2
 ·have s0:0<s.size:=by omega
  have s1:1<s.size:=by omega
  have bb0:=bX s 0
  have bb1:=bX s 1
  have hb:eE s=(aR (bt s 0)&&bN (bt s 1)):=by simp[eE,hs2]
  cases h0:aR (bt s 0) with
  |false=>
   have HC0:=af (fun W=>oh (bt s 0) W bb0.1 bb0.2 h0)
   have HU:Hid (r=.tuple #[.int .i64 0,.bool false]):=af (by rw[hr];unfold gJ;rw[hb,h0];rfl)
   rw[bh s0] at HC0
   cases h1:bN (bt s 1) with
   |false=>
    have HC1:=af (fun W=>jB (bt s 1) W bb1.1 bb1.2 h1)
    rw[bh s1] at HC1
    clear hb h0 h1 bb0 bb1 hr
    go_enter Tryz.func47,Tryz.ntmps47
    go_wp2_with fail
    go_at_call 82
    refine (HC0.out _).mono ?_
    rintro e w' ⟨rfl,rfl⟩
    go_wp2_with fail
    go_at_call 80
    refine (HC1.out _).mono ?_
    rintro e w' ⟨rfl,rfl⟩
    go_wp2
    go_ret2
    exact⟨by rw[HU.out];rfl,rfl⟩
   |true=>
    have HC1:=af (fun W=>iV (bt s 1) W bb1.1 bb1.2 h1)
    rw[bh s1] at HC1
    clear hb h0 h1 bb0 bb1 hr
    go_enter Tryz.func47,Tryz.ntmps47
    go_wp2_with fail
    go_at_call 82
    refine (HC0.out _).mono ?_
    rintro e w' ⟨rfl,rfl⟩
    go_wp2_with fail
    go_at_call 80
    refine (HC1.out _).mono ?_
    rintro e w' ⟨rfl,rfl⟩
    go_wp2
    go_ret2
    exact⟨by rw[HU.out];rfl,rfl⟩
  |true=>
   have HC0:=af (fun W=>ml (bt s 0) W bb0.1 bb0.2 h0)
   cases h1:bN (bt s 1) with
   |false=>
    have HU:Hid (r=.tuple #[.int .i64 0,.bool false]):=af (by rw[hr];unfold gJ;rw[hb,h0,h1];rfl)
    have HC1:=af (fun W=>jB (bt s 1) W bb1.1 bb1.2 h1)
    rw[bh s0] at HC0
    rw[bh s1] at HC1
    clear hb h0 h1 bb0 bb1 hr
    go_enter Tryz.func47,Tryz.ntmps47
    go_wp2_with fail
    go_at_call 82
    refine (HC0.out _).mono ?_
    rintro e w' ⟨rfl,rfl⟩
    go_wp2_with fail
    go_at_call 80
    refine (HC1.out _).mono ?_
    rintro e w' ⟨rfl,rfl⟩
    go_wp2
    go_ret2
    exact⟨by rw[HU.out];rfl,rfl⟩
   |true=>
    have HC1:=af (fun W=>iV (bt s 1) W bb1.1 bb1.2 h1)
    have hcb:97≤bt s 0∧bt s 0≤102:=by simpa [aR] using h0
    have hdb:48≤bt s 1∧bt s 1≤57:=by simpa [bN] using h1
    have HU:Hid (r=.tuple #[.int .i64 ((bt s 0 - 97)*10+(bt s 1 - 48)),.bool true]):=af (by
     rw[hr];unfold gJ;rw[hb,h0,h1]
     have:((dN s:Nat):Int)=(bt s 0 - 97)*10+(bt s 1 - 48):=by unfold dN;omega
     rw[←this];rfl)
    obtain⟨c0,hc0⟩:∃ c0,c0=bt s 0:=⟨_,rfl⟩
    obtain⟨c1,hc1⟩:∃ c1,c1=bt s 1:=⟨_,rfl⟩
    have e0:((s[0]'s0).toNat:Int)=c0:=by rw[hc0,bh s0]
    have e1:((s[1]'s1).toNat:Int)=c1:=by rw[hc1,bh s1]
    rw[←hc0,←hc1] at HU
    rw[←hc0] at HC0 hcb
    rw[←hc1] at HC1 hdb
    clear hb h0 h1 bb0 bb1 hr hc0 hc1
    go_enter Tryz.func47,Tryz.ntmps47
    go_wp2_with fail
    go_at_call 82
    refine (HC0.out _).mono ?_
    rintro e w' ⟨rfl,rfl⟩
    go_wp2_with fail
    go_at_call 80
    refine (HC1.out _).mono ?_
    rintro e w' ⟨rfl,rfl⟩
    go_wp2
    go_ret2
    exact⟨by rw[HU.out];rfl,rfl⟩
 ·have HU:Hid (r=.tuple #[.int .i64 0,.bool false]):=af (by rw[hr];simp[gJ,eE,hs2])
  clear hr
  go_enter Tryz.func47,Tryz.ntmps47
  go_wp2
  go_ret2
  exact⟨by rw[HU.out];rfl,rfl⟩
structure Fr (S:List Nat)(w w':World):Prop where
 os:w'.os=w.os
 tape:w'.tape=w.tape
 output:w'.output=w.output
 size:w.heap.size≤w'.heap.size
 block:∀ k,k<w.heap.size→k∉S→w'.heap[k]?=w.heap[k]?
theorem Fr.refl (S:List Nat)(w:World):Fr S w w:=⟨rfl,rfl,rfl,Nat.le_refl _,fun _ _ _=>rfl⟩
theorem Fr.trans {S:List Nat}{a b c:World}(h:Fr S a b)(k:Fr S b c):Fr S a c:=
 ⟨k.os.trans h.os,k.tape.trans h.tape,k.output.trans h.output,Nat.le_trans h.size k.size,fun i hi hs=>(k.block i (Nat.lt_of_lt_of_le hi h.size) hs).trans (h.block i hi hs)⟩
theorem Fr.mono {S S':List Nat}{a b:World}(h:Fr S a b)(hs:∀ g,g∈S→g∈S'∨a.heap.size≤g):Fr S' a b:=
 ⟨h.os,h.tape,h.output,h.size,fun k hk hk'=>h.block k hk (fun e=>by rcases hs k e with h|h;exact hk' h;omega)⟩
theorem Fr.grown {w w':World}{row:Option Nat}(h:w.grownBy w' row):Fr row.toList w w':=
 ⟨h.os,h.tape,h.output,h.size,fun k hk hk'=>h.block k hk (fun e=>hk' (by rw[←e];simp))⟩
theorem Fr.drewN {S:List Nat}{w w':World}(h:Fr S w w')(n:Nat):Fr S w (w'.drewN n):=⟨h.os,h.tape,h.output,h.size,h.block⟩
theorem Fr.alloc {S:List Nat}{w w':World}(h:Fr S w w')(o:Obj):Fr S w (w'.alloc o):=
 h.trans ((Fr.grown (World.grownBy_alloc w' o none)).mono (fun g hg=>by cases hg))
theorem Fr.set {S:List Nat}{w w':World}(h:Fr S w w'){a:Addr}(ha:a.block∈S∨w.heap.size≤a.block)(u:Value):Fr S w (w'.setCell a u):=by
 have hb:=Below.setCell (Below.refl 0 w') (p:=a) (Nat.zero_le _) u
 exact⟨hb.os.trans h.os,hb.tape.trans h.tape,hb.output.trans h.output,Nat.le_trans h.size hb.size,fun i hi hr=>by
  rw[Below.heap_setCell w' a u i (by rcases ha with e|e;·intro c;subst c;exact hr e
                                     ·omega)]
  exact h.block i hi hr⟩
theorem Fr.below {S:List Nat}{w w':World}{B:Nat}(h:Fr S w w')(hB:B≤w.heap.size)(hS:∀ g∈S,B≤g):Below B w w':=
 ⟨h.os,h.tape,h.output,h.size,fun k hk=>h.block k (by omega) (fun e=>by have:=hS k e;omega)⟩
abbrev eZ:=World→List Nat→Prop
def bU (P:eZ):Prop:=∀ {S:List Nat} {w w':World} {f:List Nat},P w f→Fr S w w'→(∀ g∈f,g∉S)→P w' f
def bV (P:eZ):Prop:=∀ {w:World} {f:List Nat},P w f→∀ g∈f,g<w.heap.size
def e8 (g:Nat)(cs:Array Value)(t:TypeId):eZ:=fun w f=>w.heap[g]?=some (.cells cs t (0,0))∧f=[g]
theorem e8.framed (g:Nat)(cs:Array Value)(t:TypeId):bU (e8 g cs t):=by
 rintro S w w' f ⟨h,rfl⟩ hf hs
 exact⟨(hf.block g (lt_of_block h) (hs g (by simp))).trans h,rfl⟩
theorem e8.within (g:Nat)(cs:Array Value)(t:TypeId):bV (e8 g cs t):=by
 rintro w f ⟨h,rfl⟩ k hk
 rw[List.mem_singleton.mp hk];exact lt_of_block h
def bp (e:TypeId)(size:Nat)(v:Value)(n:Nat)(xs:List Value):eZ:=fun w f=>w.ownsRow 0 e size v n xs∧f=v.ownBlock.toList
theorem bp.framed (e:TypeId)(size:Nat)(v:Value)(n:Nat)(xs:List Value):bU (bp e size v n xs):=by
 rintro S w w' f ⟨h,rfl⟩ hf hs
 refine⟨?_,rfl⟩
 obtain⟨h1,h2⟩:=h
 refine⟨h1,?_⟩
 rcases h2 with h2|⟨g,cap,cur,rfl,hb,hh,h3⟩
 ·exact .inl h2
 ·exact .inr ⟨g,cap,cur,rfl,hb,(hf.block g (lt_of_block hh) (hs g (by simp[Value.ownBlock]))).trans hh,h3⟩
theorem bp.within (e:TypeId)(size:Nat)(v:Value)(n:Nat)(xs:List Value):bV (bp e size v n xs):=by
 rintro w f ⟨h,rfl⟩ k hk
 have:v.ownBlock=some k:=by
  cases hv:v.ownBlock with
  |none=>rw[hv] at hk;cases hk
  |some g=>rw[hv] at hk;simp at hk;rw[hk]
 exact (h.lt k this).2
theorem bp.nil (e:TypeId)(size:Nat)(w:World):bp e size (.slice none 0 0) 0 [] w []:=⟨World.ownsRow_nil _ _ _ _,rfl⟩
def bZ (P Q:eZ):eZ:=fun w f=>∃ f1 f2,P w f1∧Q w f2∧f=f1++f2
theorem bZ.framed {P Q:eZ}(hP:bU P)(hQ:bU Q):bU (bZ P Q):=by
 rintro S w w' f ⟨f1,f2,h1,h2,rfl⟩ hf hs
 exact⟨f1,f2,hP h1 hf (fun g hg=>hs g (by simp[hg])),hQ h2 hf (fun g hg=>hs g (by simp[hg])),rfl⟩
theorem bZ.within {P Q:eZ}(hP:bV P)(hQ:bV Q):bV (bZ P Q):=by
 rintro w f ⟨f1,f2,h1,h2,rfl⟩ g hg
 rcases List.mem_append.mp hg with hg|hg
 ·exact hP h1 g hg
 ·exact hQ h2 g hg
def aB {α:Type}(P:Value→α→eZ):List Value→List α→eZ
 |[],[],_,f=>f=[]
 |v::vs,a::zs,w,f=>∃ f1 f2,P v a w f1∧aB P vs zs w f2∧f=f1++f2
 |_,_,_,_=>False
theorem aB.framed {α:Type}{P:Value→α→eZ}(hP:∀ v a,bU (P v a)):∀ vs zs,bU (aB P vs zs)
 |[],[]=>fun h _ _=>h
 |v::vs,a::zs=>by
  rintro⟨f1,f2,h1,h2,rfl⟩ hf hs
  exact⟨f1,f2,hP v a h1 hf (fun g hg=>hs g (by simp[hg])),aB.framed hP vs zs h2 hf (fun g hg=>hs g (by simp[hg])),rfl⟩
 |[],_::_=>fun h _ _=>h.elim
 |_::_,[]=>fun h _ _=>h.elim
theorem aB.within {α:Type}{P:Value→α→eZ}(hP:∀ v a,bV (P v a)):∀ vs zs,bV (aB P vs zs)
 |[],[]=>fun h g hg=>by rw[show _=[] from h] at hg;cases hg
 |v::vs,a::zs=>by
  rintro⟨f1,f2,h1,h2,rfl⟩ g hg
  rcases List.mem_append.mp hg with hg|hg
  ·exact hP v a h1 g hg
  ·exact aB.within hP vs zs h2 g hg
 |[],_::_=>fun h=>h.elim
 |_::_,[]=>fun h=>h.elim
theorem aB.len {α:Type}{P:Value→α→eZ}:∀ {vs:List Value} {zs:List α} {w:World} {f:List Nat},aB P vs zs w f→vs.length=zs.length
 |[],[],_,_,_=>rfl
 |_::_,_::_,_,_,⟨_,_,_,h,_⟩=>by simp[aB.len h]
 |[],_::_,_,_,h=>h.elim
 |_::_,[],_,_,h=>h.elim
theorem aB.snoc {α:Type}{P:Value→α→eZ}{v:Value}{a:α}{w:World}{f2:List Nat}(hv:P v a w f2):∀ {vs:List Value} {zs:List α} {f:List Nat},aB P vs zs w f→aB P (vs++[v]) (zs++[a]) w (f++f2)
 |[],[],f,h=>by
  rw[show f=[] from h]
  exact⟨f2,[],hv,rfl,by simp⟩
 |_::_,_::_,_,⟨g1,g2,h1,h2,e⟩=>⟨g1,g2++f2,h1,aB.snoc hv h2,by rw[e,List.append_assoc]⟩
 |[],_::_,_,h=>h.elim
 |_::_,[],_,h=>h.elim
theorem aB.get {α:Type}{P:Value→α→eZ}:∀ {vs:List Value} {zs:List α} {w:World} {f:List Nat},aB P vs zs w f→∀ (k:Nat) (h1:k<vs.length) (h2:k<zs.length),∃ g,P vs[k] zs[k] w g∧∀ x∈g,x∈f
 |_::_,_::_,_,_,⟨f1,f2,h1,_,e⟩,0,_,_=>⟨f1,h1,fun x hx=>by rw[e];simp[hx]⟩
 |_::_,_::_,_,_,⟨f1,f2,_,h2,e⟩,k+1,h3,h4=>by
  obtain⟨g,hg,hx⟩:=aB.get h2 k (by simpa using h3) (by simpa using h4)
  exact⟨g,by simpa using hg,fun x h=>by rw[e];simp[hx x h]⟩
theorem aK {w w':World}(h:w.grownBy w' none):Fr [] w w':=Fr.grown h
theorem aB.focus {α:Type}{P:Value→α→eZ}(hP:∀ v a,bU (P v a)):∀ {vs:List Value} {zs:List α} {w:World} {f:List Nat},aB P vs zs w f→∀ (k:Nat) (h1:k<vs.length) (h2:k<zs.length),
  ∃ fa g fb,P vs[k] zs[k] w g∧f=fa++(g++fb)∧∀ (v':Value) (a':α) (w':World) (g' S:List Nat),P v' a' w' g'→Fr S w w'→(∀ x∈fa,x∉S)→(∀ x∈fb,x∉S)→aB P (vs.set k v') (zs.set k a') w' (fa++(g'++fb))
 |v::vs,a::zs,w,f,⟨f1,f2,h1,h2,e⟩,0,_,_=>by
  refine⟨[],f1,f2,h1,by simpa using e,?_⟩
  intro v' a' w' g' S hv hf _ hb
  exact⟨g',f2,hv,aB.framed hP _ _ h2 hf hb,rfl⟩
 |v::vs,a::zs,w,f,⟨f1,f2,h1,h2,e⟩,k+1,h3,h4=>by
  obtain⟨fa,g,fb,hg,e2,hput⟩:=aB.focus hP h2 k (by simpa using h3) (by simpa using h4)
  refine⟨f1++fa,g,fb,by simpa using hg,by rw[e,e2];simp,?_⟩
  intro v' a' w' g' S hv hf ha hb
  exact⟨f1,fa++(g'++fb),hP _ _ h1 hf (fun x hx=>ha x (by simp[hx])),hput v' a' w' g' S hv hf (fun x hx=>ha x (by simp[hx])) hb,by simp⟩
theorem ed {fa g g' fb:List Nat}{N:Nat}(h:(fa++(g++fb)).Nodup)(hN:∀ x∈fa++(g++fb),x<N)(hg:g'.Nodup)(hs:∀ x∈g',x∈g∨N≤x):(fa++(g'++fb)).Nodup:=by
 rw[List.nodup_append] at h ⊢
 obtain⟨h1,h2,h3⟩:=h
 rw[List.nodup_append] at h2 ⊢
 obtain⟨h4,h5,h6⟩:=h2
 have hin:∀ x y,x∈g'→y<N→(y∈g→False)→x≠y:=by
  intro x y hx hy hyg e
  subst e
  rcases hs x hx with h|h
  ·exact hyg h
  ·omega
 refine⟨h1,⟨hg,h5,?_⟩,?_⟩
 ·intro a ha b hb
  exact hin a b ha (hN b (by simp[hb])) (fun hbg=>h6 b hbg b hb rfl)
 ·intro a ha b hb
  rcases List.mem_append.mp hb with hb|hb
  ·exact (hin b a hb (hN a (by simp[ha])) (fun hag=>h3 a ha a (by simp[hag]) rfl)).symm
  ·exact h3 a ha b (by simp[hb])
def mI (w:World)(b o c:Nat)(f:Bool)(v n t:Int):World:=((((w.setCell ⟨b,o+2,none⟩ (.int .i64 n)).setCell ⟨b,o+3+c*4,none⟩ (.bool true)).setCell ⟨b,o+3+c*4+1,none⟩ (.bool f)).setCell ⟨b,o+3+c*4+2,none⟩ (.int .i64 v)).setCell ⟨b,o+3+c*4+3,none⟩ (.int .i64 t)
theorem wR (b o c:Nat)(f:Bool)(v n t:Int)(w:World)(hc:c<60)(u0 u1 u2 u3:Value)
  (m0:w.cell? ⟨b,o+1,none⟩=some (.int .i64 t)) (m1:w.cell? ⟨b,o+2,none⟩=some (.int .i64 n)) (hn:0≤n) (ht:0≤t) (hnt:t+(n+1)≤9223372036854775807)
  (c0:w.cell? ⟨b,o+3+c*4,none⟩=some u0) (c1:w.cell? ⟨b,o+3+c*4+1,none⟩=some u1) (c2:w.cell? ⟨b,o+3+c*4+2,none⟩=some u2) (c3:w.cell? ⟨b,o+3+c*4+3,none⟩=some u3)
  (zz:∀ i,w.frozen? ⟨b,i,none⟩=false) (hb:b<w.heap.size) :
  Calls Tryz.prog 81 #[.pointer (some ⟨b,o,none⟩),.int .i64 c,.agg #[.bool f,.int .i64 v]] w fun e w'=>e=.returned (.tuple #[])∧
   ∃ m,w'=((mI w b o c f v (n+1) (t+(n+1))).alloc (.cells #[.bool f,.int .i64 v] 74)).drewN m:=by
 have hbz:b≠w.heap.size:=by omega
 have hi0:(0:Int)≤(c:Int):=by omega
 have hi1:(c:Int)<60:=by omega
 have z0:=zz (o+2)
 have z1:=zz (o+3+c*4)
 have z2:=zz (o+3+c*4+1)
 have z3:=zz (o+3+c*4+2)
 have z4:=zz (o+3+c*4+3)
 unfold mI
 go_enter Tryz.func81,Tryz.ntmps81
 go_wp2_with fail
 go_region
 all_goals go_wp2_with fail
 all_goals go_returns
 all_goals exact⟨rfl,1,rfl⟩
structure kB (w w':World)(b o n:Nat):Prop where
 fr:Fr [b] w w'
 cell:∀ i,(i<o∨o+n≤i)→w'.cell? ⟨b,i,none⟩=w.cell? ⟨b,i,none⟩
 blk:∀ {cs:Array Value} {t:TypeId},w.heap[b]?=some (.cells cs t (0,0))→∃ cs',w'.heap[b]?=some (.cells cs' t (0,0))
theorem kB.refl (w:World)(b o n:Nat):kB w w b o n:=⟨Fr.refl _ _,fun _ _=>rfl,fun h=>⟨_,h⟩⟩
theorem kB.trans {w w1 w2:World}{b o n:Nat}(h:kB w w1 b o n)(k:kB w1 w2 b o n):kB w w2 b o n:=
 ⟨h.fr.trans k.fr,fun i hi=>(k.cell i hi).trans (h.cell i hi),fun hb=>by obtain⟨_,h1⟩:=h.blk hb;exact k.blk h1⟩
theorem kB.drewN {w w':World}{b o n:Nat}(h:kB w w' b o n)(m:Nat):kB w (w'.drewN m) b o n:=⟨h.fr.drewN m,h.cell,h.blk⟩
theorem ah {w:World}{b:Nat}{cs:Array Value}{t:TypeId}(h:w.heap[b]?=some (.cells cs t (0,0)))(i:Nat)(u:Value):(w.setCell ⟨b,i,none⟩ u).heap[b]?=some (.cells (cs.setIfInBounds i u) t (0,0)):=Go.heap_setCell_same w b i _ _ _ h
theorem kB.set {w w':World}{b o n:Nat}(h:kB w w' b o n){i:Nat}(h1:o≤i)(h2:i<o+n)(u:Value):kB w (w'.setCell ⟨b,i,none⟩ u) b o n:=
 ⟨h.fr.set (.inl (by simp)) u,fun j hj=>by
  rw[World.cell?_setCell_other _ _ _ _ (by intro e;injection e with e1 e2;omega)]
  exact h.cell j hj,fun hb=>by
  obtain⟨cs',h3⟩:=h.blk hb
  exact⟨_,ah h3 i u⟩⟩
theorem kB.alloc {w w':World}{b o n:Nat}(h:kB w w' b o n)(hb:b<w.heap.size)(ob:Obj):kB w (w'.alloc ob) b o n:=by
 have hb':b<w'.heap.size:=Nat.lt_of_lt_of_le hb h.fr.size
 refine⟨h.fr.alloc ob,fun j hj=>?_,fun hk=>?_⟩
 ·rw[World.cell?_alloc_lt _ _ _ (by simpa using hb')]
  exact h.cell j hj
 ·obtain⟨cs',h3⟩:=h.blk hk
  exact⟨cs',(Below.heap_alloc w' ob b hb').trans h3⟩
theorem cJ.other {w w':World}{b o a n:Nat}{S:aJ}(h:cJ w b o S)(hc:kB w w' b a n)(hd:o+244≤a∨a+n≤o):cJ w' b o S:=
 ⟨(hc.cell _ (by omega)).trans h.num,(hc.cell _ (by omega)).trans h.snap,(hc.cell _ (by omega)).trans h.cnt,fun c hl=>(hc.cell _ (by omega)).trans (h.made c hl),fun c hl=>(hc.cell _ (by omega)).trans (h.filled c hl),fun c hl=>(hc.cell _ (by omega)).trans (h.val c hl),fun c hl=>(hc.cell _ (by omega)).trans (h.tm c hl),(hc.cell _ (by omega)).trans h.mks,h.ok⟩
theorem cJ.fr {w w':World}{b o:Nat}{S:aJ}{F:List Nat}(h:cJ w b o S)(hf:Fr F w w')(hb:b<w.heap.size)(hF:b∉F):cJ w' b o S:=by
 have e:∀ i,w'.cell? ⟨b,i,none⟩=w.cell? ⟨b,i,none⟩:=fun i=>by simp only[World.cell?,hf.block b hb hF]
 exact⟨(e _).trans h.num,(e _).trans h.snap,(e _).trans h.cnt,fun c hl=>(e _).trans (h.made c hl),fun c hl=>(e _).trans (h.filled c hl),fun c hl=>(e _).trans (h.val c hl),fun c hl=>(e _).trans (h.tm c hl),(e _).trans h.mks,h.ok⟩
structure yQ (b o:Nat)(S':aJ)(w w':World):Prop where
 ses:cJ w' b o S'
 chg:kB w w' b o 244
theorem Dc (S:aJ){c:Nat}(hc:c<60)(v:Option Int):kH (S.put c v)=true:=by
 unfold kH
 rw[List.any_eq_true]
 exact⟨c,by simpa using hc,by simp[aJ.put,cI]⟩
theorem aJ.ok.put {S:aJ}(h:S.ok){c:Nat}(hc:c<60)(v:Option Int):(S.put c v).ok:=by
 have h0:=h.1
 refine⟨?_,?_⟩
 ·show 0≤S.made+1
  omega
 ·rw[Dc S hc v]
  show decide (0<S.made+1)=true
  exact decide_eq_true (by omega)
theorem aU {w:World}{b i j:Nat}(h:i≠j)(u:Value):(w.setCell ⟨b,j,none⟩ u).cell? ⟨b,i,none⟩=w.cell? ⟨b,i,none⟩:=World.cell?_setCell_other _ _ _ _ (by intro e;injection e with e1 e2;omega)
theorem gp {w:World}{b i:Nat}{v:Value}(h:w.cell? ⟨b,i,none⟩=some v)(u:Value):(w.setCell ⟨b,i,none⟩ u).cell? ⟨b,i,none⟩=some u:=World.cell?_setCell_same _ _ _ h
theorem FI {b o c:Nat}{S:aJ}{w:World}{cs:Array Value}{t:TypeId}(hb:w.heap[b]?=some (.cells cs t (0,0)))(h:cJ w b o S)(hc:c<60)(v:Option Int)(ob:Obj)(m:Nat):
  yQ b o (S.put c v) w (((mI w b o c v.isSome (v.getD 0) (S.made+1) (S.snap+(S.made+1))).alloc ob).drewN m):=by
 have hbl:=lt_of_block hb
 have hsz:(mI w b o c v.isSome (v.getD 0) (S.made+1) (S.snap+(S.made+1))).heap.size=w.heap.size:=by simp[mI,World.setCell]
 have hch:kB w (((mI w b o c v.isSome (v.getD 0) (S.made+1) (S.snap+(S.made+1))).alloc ob).drewN m) b o 244:=by
  unfold mI
  exact (((((((kB.refl w b o 244).set (by omega) (by omega) _).set (by omega) (by omega) _).set (by omega) (by omega) _).set (by omega) (by omega) _).set (by omega) (by omega) _).alloc hbl ob).drewN m
 have e0:∀ (R:World),R.heap.size=w.heap.size→∀ i,((R.alloc ob).drewN m).cell? ⟨b,i,none⟩=R.cell? ⟨b,i,none⟩:=fun R hR i=>by
  show World.cell? (World.alloc _ _) _=_
  exact World.cell?_alloc_lt _ _ _ (by rw[hR];exact hbl)
 have e:=e0 _ hsz
 have far:∀ i,i≠o+2→i≠o+3+c*4→i≠o+3+c*4+1→i≠o+3+c*4+2→i≠o+3+c*4+3→(mI w b o c v.isSome (v.getD 0) (S.made+1) (S.snap+(S.made+1))).cell? ⟨b,i,none⟩=w.cell? ⟨b,i,none⟩:=by
  intro i h1 h2 h3 h4 h5
  unfold mI
  rw[aU h5,aU h4,aU h3,aU h2,aU h1]
 refine⟨⟨?_,?_,?_,fun j hj=>?_,fun j hj=>?_,fun j hj=>?_,fun j hj=>?_,?_,h.ok.put hc v⟩,hch⟩
 ·rw[e,far _ (by omega) (by omega) (by omega) (by omega) (by omega)];exact h.num
 ·rw[e,far _ (by omega) (by omega) (by omega) (by omega) (by omega)];exact h.snap
 ·rw[e]
  unfold mI
  rw[aU (by omega),aU (by omega),aU (by omega),aU (by omega),gp h.cnt]
  rfl
 ·show World.cell? _ _=some (Value.bool (iX (cI S.wr c (some v) j)))
  rw[e]
  by_cases ej:j=c
  ·subst ej
   rw[aW]
   unfold mI
   rw[aU (by omega),aU (by omega),aU (by omega),gp (v:=.bool (iX (S.wr j))) (by rw[aU (by omega)];exact h.made j hj)]
   rfl
  ·rw[bF _ _ _ ej,far _ (by omega) (by omega) (by omega) (by omega) (by omega)];exact h.made j hj
 ·show World.cell? _ _=some (Value.bool (gX (cI S.wr c (some v) j)))
  rw[e]
  by_cases ej:j=c
  ·subst ej
   rw[aW]
   unfold mI
   rw[aU (by omega),aU (by omega),gp (v:=.bool (gX (S.wr j))) (by rw[aU (by omega),aU (by omega)];exact h.filled j hj)]
   cases v <;> rfl
  ·rw[bF _ _ _ ej,far _ (by omega) (by omega) (by omega) (by omega) (by omega)];exact h.filled j hj
 ·show World.cell? _ _=some (Value.int .i64 (rq (cI S.wr c (some v) j)))
  rw[e]
  by_cases ej:j=c
  ·subst ej
   rw[aW]
   unfold mI
   rw[aU (by omega),gp (v:=.int .i64 (rq (S.wr j))) (by rw[aU (by omega),aU (by omega),aU (by omega)];exact h.val j hj)]
   cases v <;> rfl
  ·rw[bF _ _ _ ej,far _ (by omega) (by omega) (by omega) (by omega) (by omega)];exact h.val j hj
 ·show World.cell? _ _=some (Value.int .i64 (cI S.tm c (S.snap+(S.made+1)) j))
  rw[e]
  by_cases ej:j=c
  ·subst ej
   rw[aW]
   unfold mI
   rw[gp (v:=.int .i64 (S.tm j)) (by rw[aU (by omega),aU (by omega),aU (by omega),aU (by omega)];exact h.tm j hj)]
  ·rw[bF _ _ _ ej,far _ (by omega) (by omega) (by omega) (by omega) (by omega)];exact h.tm j hj
 ·rw[e,far _ (by omega) (by omega) (by omega) (by omega) (by omega)];exact h.mks
theorem ai {w:World}{b:Nat}{cs:Array Value}{t:TypeId}(hb:w.heap[b]?=some (.cells cs t (0,0)))(i:Nat):w.frozen? ⟨b,i,none⟩=false:=by simp[World.frozen?,hb]
def aJ.more (S:aJ):Prop:=0≤S.snap∧S.snap+(S.made+1)≤9223372036854775807
theorem nX (b o c:Nat)(v:Option Int)(S:aJ)(w:World)(hc:c<60){cs:Array Value}{t:TypeId}(hb:w.heap[b]?=some (.cells cs t (0,0)))(h:cJ w b o S)(hm:S.more):
  Calls Tryz.prog 81 #[.pointer (some ⟨b,o,none⟩),.int .i64 c,.agg #[.bool v.isSome,.int .i64 (v.getD 0)]] w fun e w'=>e=.returned (.tuple #[])∧yQ b o (S.put c v) w w':=by
 refine (wR b o c v.isSome (v.getD 0) S.made S.snap w hc _ _ _ _ h.snap h.cnt h.ok.1 hm.1 hm.2 (h.made c hc) (h.filled c hc) (h.val c hc) (h.tm c hc) (ai hb) (lt_of_block hb)).mono ?_
 rintro e w' ⟨rfl,n,rfl⟩
 exact⟨rfl,FI hb h hc v _ _⟩
theorem Cz (b o c:Nat)(v:Int)(S:aJ)(w:World)(hc:c<60){cs:Array Value}{t:TypeId}(hb:w.heap[b]?=some (.cells cs t (0,0)))(h:cJ w b o S)(hm:S.more):
  Calls Tryz.prog 43 #[.pointer (some ⟨b,o,none⟩),.int .i64 c,.int .i64 v] w fun e w'=>e=.returned (.tuple #[])∧yQ b o (S.put c (some v)) w w':=by
 have HR:=af (nX b o c (some v) S w hc hb h hm)
 clear hb h hm
 go_enter Tryz.func43,Tryz.ntmps43
 go_wp2_with fail
 go_at_call 81
 refine HR.out.mono ?_
 rintro e w' ⟨rfl,h⟩
 have H:=af h
 clear h
 go_wp2
 go_returns
 exact⟨rfl,H.out⟩
theorem xq (b o c:Nat)(S:aJ)(w:World)(hc:c<60){cs:Array Value}{t:TypeId}(hb:w.heap[b]?=some (.cells cs t (0,0)))(h:cJ w b o S)(hm:S.more):
  Calls Tryz.prog 48 #[.pointer (some ⟨b,o,none⟩),.int .i64 c] w fun e w'=>e=.returned (.tuple #[])∧yQ b o (S.put c none) w w':=by
 have HR:=af (nX b o c none S w hc hb h hm)
 clear hb h hm
 go_enter Tryz.func48,Tryz.ntmps48
 go_wp2_with fail
 go_at_call 81
 refine HR.out.mono ?_
 rintro e w' ⟨rfl,h⟩
 have H:=af h
 clear h
 go_wp2
 go_returns
 exact⟨rfl,H.out⟩
end Go.Proofs.YthlhbjnkohinmaaGreat
