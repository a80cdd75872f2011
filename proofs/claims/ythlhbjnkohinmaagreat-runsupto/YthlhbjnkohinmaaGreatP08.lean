import Derived.Test.YthlhbjnkohinmaaGreatP07
import Derived.Test.YthlhbjnkohinmaaGreatP05
import Derived.Test.YthlhbjnkohinmaaGreatRows
import Derived.ProofKit
import Derived.OpenShut
import Derived.ShutString
import Derived.ChangeOld
import Derived.Below
import Derived.SizedLaws
import Derived.Deep.Slices
import Derived.Test.YthlhbjnkohinmaaGreatP00
import Derived.Laws.BytesArg
namespace Go.Proofs.YthlhbjnkohinmaaGreat
set_option maxRecDepth 100000
set_option maxHeartbeats 8000000
open Go.RowKit
theorem pr {w w':World} {B:Nat} {s:ByteArray} {R:List ax} {xs:List Value} (h:fX w B s R xs) (hg:w.grownBy w' none):fX w' B s R xs:=gY hg (fun g hg=>by cases hg) R xs h
theorem oE {w w':World} {B:Nat} {s:ByteArray} {v:Value} {R:List ax} (h:jp w B s v R) (hg:w.grownBy w' none):jp w' B s v R:=by
 obtain⟨xs,h1,h2⟩:=h
 exact⟨xs,aq h1 hg (fun g hg=>by cases hg),pr h2 hg⟩
theorem gd.lens {s:ByteArray} {r:ax} (h:gd s r) (hs:s.size≤400):r.2.1.length≤400∧r.2.2.length≤400:=by
 have h1:=Es h.conds rfl
 have h2:=Ey h.acts rfl
 have h3:=mx h.acts rfl
 omega
theorem mY {s:ByteArray} {r:ax} (h:gd s r):io s r.2.1 r.2.2=(decide (5<r.2.1.length)||decide (4<r.2.2.length)||decide (3<eu s r.2.1)):=by
 rw[io,t9 (lC h.conds rfl)]
theorem yF {s:ByteArray} {r:ax} (h:gd s r):mt s r.2.1 r.2.2=!(kq s r.2.1 r.2.2):=An (lC h.conds rfl) (fun p hp=>(yA h.acts rfl p hp).1)
def CU (w:World) (s:ByteArray) (x p:Int) (o:Option (List ax)) (e:Ending) (w':World):Prop:=
 ∃ v,e=.returned (.tuple #[v,.int .i64 x,.int .i64 p])∧(∀ R,o=some R→jp w' w.heap.size s v R)∧(o=none→v=.slice none 0 0)∧w.grownBy w' none
theorem kM (s:ByteArray) (R:List ax) (w:World) (x p:Int) (o:Option (List ax)) (hs:s.size≤400) (hR:kJ s 0 R s.size true)
  (o1:Option Nat) (h1:bI (iU s R) R.length o1) (o2:Option Nat) (h2:bI (jK s R) R.length o2)
  (e1:∀ m,o1=some m→x=3∧p=m∧o=none) (e2:∀ m,o1=none→o2=some m→x=4∧p=m∧o=none) (e3:o1=none→o2=none→x=0∧p=0∧o=some R) :
  Calls Tryz.prog 39 #[.string s] w (CU w s x p o):=by
 have hall:=(te hR rfl).2
 have hlen:=pb hR
 have HALL:=af hall
 have HPL:=af (fun W=>so s W hs)
 have HRD:=af (fun W=>zx s R W hs hR)
 have HGO:=af ((pD hR).1 rfl)
 have H1:=af h1
 have H2:=af h2
 have E1:=af e1
 have E2:=af e2
 have E3:=af e3
 clear hall hR h1 h2 e1 e2 e3
 go_enter Tryz.func39,Tryz.ntmps39
 go_wp2_with fail
 go_at_call 76
 refine (HPL.out _).mono ?_
 rintro e w' ⟨pp,rfl,hp,rfl⟩
 have hpp:=(yf HGO.out.1 HGO.out.2 hp).1
 subst hpp
 clear hp HPL HGO
 go_wp2_with fail
 go_at_call 77
 refine (HRD.out _).mono ?_
 rintro e w1 ⟨v,rfl,⟨xs,hown,hpar⟩,hg1⟩
 obtain⟨a,m,c,rfl⟩:=an hown
 have em:=ar hown
 subst em
 have HP:=af hpar
 clear HRD hpar
 go_wp2_with fail
 go_loopw [7] (fun t wr=>∃ k:Nat,k≤R.length∧t=.int .i64 k∧w1.grownBy wr none∧∀ j,j<k→¬iU s R j) (fun t _=>R.length - (intOf t).toNat)
 case atStart=>exact⟨0,Nat.zero_le _,rfl,ag _ _,fun j hj=>by omega⟩
 case round=>
  obtain⟨k,hk,rfl,hg,hno⟩:=hrel
  have HN:=af hno
  clear hno
  by_cases hlt:k<R.length
  ·obtain⟨a1,m1,c1,a2,m2,c2,x0,x1,x2,q1,q2⟩:=iD R xs HP.out k hlt
   obtain⟨g,rfl,_,hgb,hgl,hcell⟩:=aC hown (by omega)
   have d0:=hg.cell (hcell _ _ x0) (by simp)
   have d1:=hg.cell (hcell _ _ x1) (by simp)
   have d2:=hg.cell (hcell _ _ x2) (by simp)
   have hok:=HALL.out R[k] (List.getElem_mem hlt)
   have em1:=ar q1
   have em2:=ar q2
   subst em1 em2
   have q1':=aq q1 hg (fun g hg=>by cases hg)
   have HPT:=af (sG s R[k].2.1 (bt s R[k].1 - 48) a1 a2 _ c1 R[k].2.2.length c2 w.heap.size wr (lC hok.conds rfl) (hok.lens hs).1 q1')
   have hpc:=mX s R[k].2.1
   have hl1:=(hok.lens hs).1
   have hl2:=(hok.lens hs).2
   have HB:Hid (iU s R k↔(9≤k∨5<R[k].2.1.length∨4<R[k].2.2.length∨3<eu s R[k].2.1)):=af (by
    constructor
    ·rintro⟨_,h|h⟩
     ·exact .inl h
     ·rw[mY hok] at h;simp at h;rcases h with (h|h)|h
      ·exact .inr (.inl h)
      ·exact .inr (.inr (.inl h))
      ·exact .inr (.inr (.inr h))
    ·intro h
     refine⟨hlt,?_⟩
     rcases h with h|h|h|h
     ·exact .inl h
     ·right;rw[mY hok];simp[h]
     ·right;rw[mY hok];simp[h]
     ·right;rw[mY hok];simp[h])
   clear hcell x0 x1 x2 q1 q2 q1' hok
   obtain⟨lc,hlc⟩:∃ lc,lc=R[k].2.1.length:=⟨_,rfl⟩
   obtain⟨la,hla⟩:∃ la,la=R[k].2.2.length:=⟨_,rfl⟩
   obtain⟨np,hnp⟩:∃ np,np=eu s R[k].2.1:=⟨_,rfl⟩
   obtain⟨wt,hwt⟩:∃ wt,wt=bt s R[k].1 - 48:=⟨_,rfl⟩
   rw[←hlc] at HPT HB d1 hpc hl1
   rw[←hla] at HPT HB d2 hl2
   rw[←hnp] at HPT HB hpc
   rw[←hwt] at HPT d0
   clear hlc hla hnp hwt
   by_cases hb:9≤k∨5<lc∨4<la∨3<np
   ·have HO:Hid (x=3∧p=k∧o=none):=af (by
     have hf:bI (iU s R) R.length (some k):=⟨hlt,HB.out.mpr hb,HN.out⟩
     exact E1.out k (bI.unique H1.out hf))
    obtain⟨rfl,rfl,rfl⟩:=HO.out
    go_wp2_with fail
    go_at_call 78
    refine HPT.out.mono ?_
    rintro e w2 ⟨rfl,hg2⟩
    have d1':=hg2.cell d1 (by simp)
    have d2':=hg2.cell d2 (by simp)
    by_cases z1:5<lc
    ·go_wp2
     go_ret3
     exact⟨_,rfl,(fun R h=>by cases h),(fun _=>rfl),ae hg1 (ae hg hg2)⟩
    ·by_cases z2:3<np
     ·go_wp2
      go_ret3
      exact⟨_,rfl,(fun R h=>by cases h),(fun _=>rfl),ae hg1 (ae hg hg2)⟩
     ·by_cases z3:4<la
      ·go_wp2
       go_ret3
       exact⟨_,rfl,(fun R h=>by cases h),(fun _=>rfl),ae hg1 (ae hg hg2)⟩
      ·have z4:9≤k:=by omega
       go_wp2
       go_ret3
       exact⟨_,rfl,(fun R h=>by cases h),(fun _=>rfl),ae hg1 (ae hg hg2)⟩
   ·have HNB:Hid (¬iU s R k):=af (fun h=>hb (HB.out.mp h))
    have z1:¬5<lc:=by omega
    have z2:¬3<np:=by omega
    have z3:¬4<la:=by omega
    have z4:¬9≤k:=by omega
    clear hb
    go_wp2_with fail
    go_at_call 78
    refine HPT.out.mono ?_
    rintro e w2 ⟨rfl,hg2⟩
    have d1':=hg2.cell d1 (by simp)
    have d2':=hg2.cell d2 (by simp)
    have hg':=ae hg hg2
    clear hg hg2 d0 d1 d2
    go_wp2
    go_roundw
    case rel=>
     refine⟨k+1,by omega,by go_num,hg',?_⟩
     intro j hj
     by_cases ej:j=k
     ·rw[ej];exact HNB.out
     ·exact HN.out j (by omega)
    case measure=>simp[intOf];omega
  ·have HO1:Hid (o1=none):=af (bI.unique H1.out (show bI (iU s R) R.length none from fun j hj=>HN.out j (by omega)))
   clear HN
   go_wp2_with fail
   go_loopw [9] (fun t wr=>∃ k:Nat,k≤R.length∧t=.int .i64 k∧w1.grownBy wr none∧∀ j,j<k→¬jK s R j) (fun t _=>R.length - (intOf t).toNat)
   case atStart=>exact⟨0,Nat.zero_le _,rfl,hg,fun j hj=>by omega⟩
   case round=>
    clear hg
    obtain⟨k',hk',rfl,hg,hno⟩:=hrel
    have HN:=af hno
    clear hno
    by_cases hlt':k'<R.length
    ·obtain⟨a1,m1,c1,a2,m2,c2,x0,x1,x2,q1,q2⟩:=iD R xs HP.out k' hlt'
     obtain⟨g,rfl,_,hgb,hgl,hcell⟩:=aC hown (by omega)
     have d0:=hg.cell (hcell _ _ x0) (by simp)
     have d1:=hg.cell (hcell _ _ x1) (by simp)
     have d2:=hg.cell (hcell _ _ x2) (by simp)
     have hok:=HALL.out R[k'] (List.getElem_mem hlt')
     have q1':=aq q1 hg (fun g hg=>by cases hg)
     have q2':=aq q2 hg (fun g hg=>by cases hg)
     have HWH:=af (Ax s R[k'].2.1 R[k'].2.2 (bt s R[k'].1 - 48) a1 a2 m1 c1 m2 c2 w.heap.size wr hs (lC hok.conds rfl) (fun p hp=>(yA hok.acts rfl p hp).2) (hok.lens hs).1 (hok.lens hs).2 q1' q2')
     have HB:Hid (jK s R k'↔kq s R[k'].2.1 R[k'].2.2=false):=af (by
      constructor
      ·rintro⟨_,h⟩;rw[yF hok] at h;simpa using h
      ·intro h;exact⟨hlt',by rw[yF hok,h];rfl⟩)
     clear hcell x0 x1 x2 q1 q2 q1' q2' hok
     obtain⟨bb,hbb⟩:∃ bb,bb=kq s R[k'].2.1 R[k'].2.2:=⟨_,rfl⟩
     rw[←hbb] at HWH HB
     clear hbb
     cases bb with
     |false=>
      have HO:Hid (x=4∧p=k'∧o=none):=af (by
       have hf:bI (jK s R) R.length (some k'):=⟨hlt',HB.out.mpr rfl,HN.out⟩
       exact E2.out k' HO1.out (bI.unique H2.out hf))
      obtain⟨rfl,rfl,rfl⟩:=HO.out
      go_wp2_with fail
      go_at_call 79
      refine HWH.out.mono ?_
      rintro e w2 ⟨rfl,hg2⟩
      go_wp2
      go_ret3
      exact⟨_,rfl,(fun R h=>by cases h),(fun _=>rfl),ae hg1 (ae hg hg2)⟩
     |true=>
      have HNB:Hid (¬jK s R k'):=af (fun h=>by have:=HB.out.mp h;cases this)
      go_wp2_with fail
      go_at_call 79
      refine HWH.out.mono ?_
      rintro e w2 ⟨rfl,hg2⟩
      have hg':=ae hg hg2
      clear hg hg2 d0 d1 d2
      go_wp2
      go_roundw
      case rel=>
       refine⟨k'+1,by omega,by go_num,hg',?_⟩
       intro j hj
       by_cases ej:j=k'
       ·rw[ej];exact HNB.out
       ·exact HN.out j (by omega)
      case measure=>simp[intOf];omega
    ·have HO2:Hid (o2=none):=af (bI.unique H2.out (show bI (jK s R) R.length none from fun j hj=>HN.out j (by omega)))
     obtain⟨rfl,rfl,rfl⟩:=E3.out HO1.out HO2.out
     go_wp2
     go_ret3
     exact⟨_,rfl,(fun R' h=>by cases h;exact oE ⟨xs,hown,HP.out⟩ hg),(fun h=>by cases h),ae hg1 hg⟩
theorem kA (bad:Nat→Prop):∀ n,∃ o,bI bad n o
 |0=>⟨none,fun j hj=>by omega⟩
 |n+1=>by
  obtain⟨o,h⟩:=kA bad n
  cases o with
  |some m=>exact⟨some m,by have h1:=h.1;omega,h.2.1,h.2.2⟩
  |none=>
   by_cases hb:bad n
   ·exact⟨some n,by omega,hb,h⟩
   ·refine⟨none,fun j hj=>?_⟩
    by_cases e:j=n
    ·rw[e];exact hb
    ·exact h j (by omega)
theorem qH {s:ByteArray} {R:List ax} {j:Nat} (h:kJ s 0 R j true):j=s.size:=by
 obtain⟨⟨n,hn,hq⟩,hj⟩:=(pD h).1 rfl
 have:=kY s n (by rw[hq];omega)
 omega
theorem mi (s:ByteArray) (w:World) (x p:Int) (o:Option (List ax)) (hs:s.size≤maxLen) (h:cA s x p o) :
  Calls Tryz.prog 39 #[.string s] w (CU w s x p o):=by
 unfold maxLen at hs
 rcases h with ⟨h4,rfl,rfl,rfl⟩|⟨R,j,h4,hr,rfl,rfl,rfl⟩|⟨R,j,m,h4,hr,hb,rfl,rfl,rfl⟩|⟨R,j,m,h4,hr,hb,hu,rfl,rfl,rfl⟩|⟨R,j,h4,hr,hb,hu,rfl,rfl,rfl⟩
 ·go_enter Tryz.func39,Tryz.ntmps39
  go_wp2
  go_ret3
  exact⟨_,rfl,(fun R h=>by cases h),(fun _=>rfl),ag _ _⟩
 ·have HPL:=af (fun W=>so s W h4)
  have HST:=af ((pD hr).2 rfl)
  clear hr
  go_enter Tryz.func39,Tryz.ntmps39
  go_wp2_with fail
  go_at_call 76
  refine (HPL.out _).mono ?_
  rintro e w' ⟨pp,rfl,hp,rfl⟩
  have hpp:=xw HST.out hp
  subst hpp
  clear hp
  go_wp2
  go_ret3
  exact⟨_,rfl,(fun R h=>by cases h),(fun _=>rfl),ag _ _⟩
 ·have e:=qH hr
  subst e
  obtain⟨o2,h2⟩:=kA (jK s R) R.length
  exact kM s R w _ _ _ h4 hr (some m) hb o2 h2 (fun m' e=>by cases e;exact⟨rfl,rfl,rfl⟩) (fun m' e=>by cases e) (fun e=>by cases e)
 ·have e:=qH hr
  subst e
  exact kM s R w _ _ _ h4 hr none hb (some m) hu (fun m' e=>by cases e) (fun m' _ e=>by cases e;exact⟨rfl,rfl,rfl⟩) (fun _ e=>by cases e)
 ·have e:=qH hr
  subst e
  exact kM s R w _ _ _ h4 hr none hb none hu (fun m' e=>by cases e) (fun m' _ e=>by cases e) (fun _ _=>⟨rfl,rfl,rfl⟩)
def pV (v:Value) (room:Int):Array Value:=#[v,.int .i64 room,.slice none 0 0,.slice none 0 0,.slice none 0 0,.int .i64 0]
theorem zY (s:ByteArray) (room:Int) (w:World) (x p:Int) (o:Option (List ax)) (hs:s.size≤maxLen) (h:cA s x p o) (h1:1≤x) :
  Calls Tryz.prog 17 #[.string s,.int .i64 room] w fun e w'=>e=.returned (.tuple #[.pointer none,.int .i64 x,.int .i64 p])∧w.grownBy w' none:=by
 have hx0:(x != 0)=true:=by simp;omega
 have HR:=af (fun W=>mi s W x p o hs h)
 clear h
 go_enter Tryz.func17,Tryz.ntmps17
 go_wp2_with fail
 go_at_call 39
 refine (HR.out _).mono ?_
 rintro e w1 ⟨v,rfl,ho,hn,hg⟩
 clear ho hn
 go_wp2
 go_ret3
 exact⟨rfl,hg⟩
theorem wG (s:ByteArray) (room:Int) (w:World) (p:Int) (o:Option (List ax)) (hs:s.size≤maxLen) (h:cA s 0 p o) (h1:room<1∨999<room) :
  Calls Tryz.prog 17 #[.string s,.int .i64 room] w fun e w'=>e=.returned (.tuple #[.pointer none,.int .i64 5,.int .i64 0])∧w.grownBy w' none:=by
 have HR:=af (fun W=>mi s W 0 p o hs h)
 clear h
 rcases h1 with h1|h1
 all_goals
  go_enter Tryz.func17,Tryz.ntmps17
  go_wp2_with fail
  go_at_call 39
  refine (HR.out _).mono ?_
  rintro e w1 ⟨v,rfl,ho,hn,hg⟩
  clear ho hn
  go_wp2
  go_ret3
  exact⟨rfl,hg⟩
theorem DG (s:ByteArray) (room:Int) (w:World) (p:Int) (R:List ax) (hs:s.size≤maxLen) (h:cA s 0 p (some R)) (h1:1≤room) (h2:room≤999) :
  Calls Tryz.prog 17 #[.string s,.int .i64 room] w fun e w'=>∃ g v,e=.returned (.tuple #[.pointer (some ⟨g,0,none⟩),.int .i64 0,.int .i64 0])∧w.heap.size≤g∧w'.heap[g]?=some (.cells (pV v room) 40 (0,0))∧jp w' w.heap.size s v R∧w.grownBy w' none:=by
 have HR:=af (fun W=>mi s W 0 p (some R) hs h)
 clear h
 go_enter Tryz.func17,Tryz.ntmps17
 go_wp2_with fail
 go_at_call 39
 refine (HR.out _).mono ?_
 rintro e w1 ⟨v,rfl,ho,hn,hg⟩
 have HO:=af (ho R rfl)
 obtain⟨xs,hown,hpar⟩:=ho R rfl
 obtain⟨a,m,c,rfl⟩:=an hown
 have hsz:=hg.size
 clear ho hn hown hpar
 go_wp2
 go_ret3
 exact⟨w1.heap.size,_,rfl,hsz,heap_alloc_new w1 _,oE HO.out (World.grownBy_alloc w1 _ none),ab hg _⟩
theorem fR (x:Int) (w:World):Calls Tryz.prog 18 #[.int .i64 x] w fun e w'=>e=.returned (.int .i64 x)∧w=w':=by
 go_enter Tryz.func18,Tryz.ntmps18
 go_wp2
 go_ret
 exact⟨rfl,rfl⟩
def mF (c n:Int):Int:=(if c<0 then -(c+1) else c) % n
theorem uX (c n:Int) (h:0<n):0≤mF c n∧mF c n<n:=⟨Int.emod_nonneg _ (by omega),Int.emod_lt_of_pos _ h⟩
theorem uu (c:Int) (n:Nat) (w:World) (hc:-9223372036854775808≤c) (hc2:c≤9223372036854775807) (hn:0<n) (hn2:n≤9223372036854775807) :
  Calls Tryz.prog 13 #[.int .i64 c,.int .i64 n] w fun e w'=>e=.returned (.int .i64 (mF c n))∧w'=w:=by
 by_cases h:c<0
 ·have e:mF c n=(-(c+1)) % (n:Int):=by simp[mF,h]
  rw[e];clear e
  go_enter Tryz.func13,Tryz.ntmps13
  go_wp2
  go_ret
  exact⟨kj (by rw[←Int.neg_tmod,Int.tmod_eq_emod_of_nonneg (by omega)]),rfl⟩
 ·have e:mF c n=c % (n:Int):=by simp[mF,h]
  rw[e];clear e
  go_enter Tryz.func13,Tryz.ntmps13
  go_wp2
  go_ret
  exact⟨rfl,rfl⟩
theorem Tryz.info33:(Tryz.prog.info? 33).map (fun i=>(i.zero,i.size,i.bytes))=some (some (.pointer none),1,8):=by kernel_rfl
def Dl (w:World) (sb o:Nat) (k a b c:Int) (s:ByteArray):Prop:=
 w.cell? ⟨sb,o,none⟩=some (.int .i64 k)∧w.cell? ⟨sb,o+1,none⟩=some (.int .i64 a)∧w.cell? ⟨sb,o+2,none⟩=some (.int .i64 b)∧w.cell? ⟨sb,o+3,none⟩=some (.int .i64 c)∧w.cell? ⟨sb,o+4,none⟩=some (.string s)∧
 -9223372036854775808≤a∧a≤9223372036854775807∧s.size≤maxLen
open Go.ChangeShapes Go.WideShapes Go.ChangeAt Go.RowKit Go.Deep
theorem Tryz.own:ownKnob Tryz.prog.godebug=none:=by kernel_rfl
theorem Tryz.laidOut:laidOutB Tryz.prog=true:=by kernel_rfl
def nh (w:World) (a:Option Addr) (len:Nat):Prop:=len=0∨∃ sb off,a=some ⟨sb,off,none⟩∧sb<w.heap.size∧∀ t,t<len→∃ k a b c s,Dl w sb (off+t*5) k a b c s
theorem Tryz.bytes30:Tryz.prog.bytesOf 30=48:=by kernel_rfl
theorem Tryz.cells30:Tryz.prog.cellsOf 30=5:=by kernel_rfl
theorem Tryz.cells3:Tryz.prog.cellsOf 3=1:=by kernel_rfl
theorem Tryz.cells9:Tryz.prog.cellsOf 9=1:=by kernel_rfl
theorem Fn {α:Type} {l:List α} (h:l.length=5):∃ a b c d e,l=[a,b,c,d,e]:=by
 match l,h with
 |[a,b,c,d,e],_=>exact⟨a,b,c,d,e,rfl⟩
theorem uw {H:Type} {enc:TypeId×Value→H} {w:World} {base:Nat} {spare:Nat→Bool} {held:Bool} {fuel:Nat} {a:Option Addr} {len cap:Nat} {x:DataW H×List MemPlace}
  (h:DataW.trod enc Tryz.prog w base spare held fuel 22 [.slice a len cap]=some x) :
  nh w a len∧∃ elems sp,(x.1=.nil∧len=0)∨(x.1=.slice elems sp∧elems.length=len):=by
 rcases open_slice Tryz.underlying22 h with ⟨hcs,hx⟩|⟨ad,l,c,m,n,D,Pl,hcs,hb,hl,hm,hmm,hx,hel⟩
 ·simp at hcs
  obtain⟨rfl,rfl,rfl⟩:=hcs
  exact⟨.inl rfl,[],[],.inl ⟨by rw[hx],rfl⟩⟩
 ·simp at hcs
  obtain⟨rfl,rfl,rfl⟩:=hcs
  refine⟨?_,_,_,.inr ⟨by rw[hx],by simp⟩⟩
  by_cases h0:len=0
  ·exact .inl h0
  right
  have hlm:len≤m:=by rw[hmm];split <;> omega
  have each:∀ i,i<m→∃ k a b c s,w.cell? (ad.add (i*5))=some (.int .i64 k)∧w.cell? (ad.add (i*5+1))=some (.int .i64 a)∧w.cell? (ad.add (i*5+2))=some (.int .i64 b)∧w.cell? (ad.add (i*5+3))=some (.int .i64 c)∧w.cell? (ad.add (i*5+4))=some (.string s)∧(Lit.int .i64 a).wf=true∧s.size≤maxLen:=by
   intro i hi
   obtain⟨cs',h1,h2⟩:=hel i hi
   rw[Tryz.cells30] at h1
   obtain⟨_,hlen,hcell⟩:=World.cells?_some h1
   obtain⟨xs,k,hk,hxy,_,hxl,hf⟩:=DataW.trod_struct Tryz.underlying30 h2
   obtain⟨y0,y1,y2,y3,y4,rfl⟩:=Fn (show xs.length=5 from hxl)
   obtain⟨v0,v1,v2,v3,v4,rfl⟩:=Fn hlen
   have g0:=hf 0 _ rfl
   have g1:=hf 1 _ rfl
   have g2:=hf 2 _ rfl
   have g3:=hf 3 _ rfl
   have g4:=hf 4 _ rfl
   simp[Tryz.cells3,Tryz.cells9] at g0 g1 g2 g3 g4
   obtain⟨n0,q0,_,_⟩:=DataW.trod_int Tryz.underlying3 g0
   obtain⟨n1,q1,_,w1⟩:=DataW.trod_int Tryz.underlying3 g1
   obtain⟨n2,q2,_,_⟩:=DataW.trod_int Tryz.underlying3 g2
   obtain⟨n3,q3,_,_⟩:=DataW.trod_int Tryz.underlying3 g3
   obtain⟨s,q4,_,w4⟩:=DataW.trod_string Tryz.underlying9 g4
   simp at q0 q1 q2 q3 q4
   subst q0 q1 q2 q3 q4
   have e0:=hcell 0 (by omega)
   have e1:=hcell 1 (by omega)
   have e2:=hcell 2 (by omega)
   have e3:=hcell 3 (by omega)
   have e4:=hcell 4 (by omega)
   rw[add_add] at e0 e1 e2 e3 e4
   exact⟨n0,n1,n2,n3,s,by simpa using e0,by simpa using e1,by simpa using e2,by simpa using e3,by simpa using e4,w1,w4⟩
  obtain⟨b,off,spot⟩:=ad
  obtain⟨_,_,_,_,_,hc0,_⟩:=each 0 (by omega)
  have hspot:spot=none:=by simpa [Addr.add] using World.cell?_spot hc0
  subst hspot
  have hadd:∀ j,(⟨b,off,none⟩:Addr).add j=⟨b,off+j,none⟩:=by intro j;unfold Addr.add;split <;> simp_all
  refine⟨b,off,rfl,?_,?_⟩
  ·exact World.block_lt_of_cell? w _ hc0
  ·intro t ht
   obtain⟨k,a,b',c,s,e0,e1,e2,e3,e4,w1,w4⟩:=each t (by omega)
   rw[hadd] at e0 e1 e2 e3 e4
   have hbd:=bounds_i64 w1
   exact⟨k,a,b',c,s,e0,e1,e2,e3,e4,hbd.1,hbd.2,w4⟩
open Go.RowKit
def eC (s:ByteArray):Bool:=s.size==2&&aQ (bt s 0)&&bM (bt s 1)
def eP (s:ByteArray):Bool:=s.size==3&&aQ (bt s 0)&&bM (bt s 1)&&bM (bt s 2)
def cg (l:List ByteArray):ByteArray:=l.foldl (·++·) ByteArray.empty
theorem ia (l:List ByteArray) (x:ByteArray):cg (l++[x])=cg l++x:=by simp[cg]
abbrev PW:=Option (Option Int)
structure aI where
 num:Int
 snap:Int
 made:Int
 wr:Nat→PW
 tm:Nat→Int
 mks:Option Nat
abbrev Eh:=(Value×Int)×ByteArray×List (Nat×List Nat×List Nat)
structure ap where
 src:Eh
 opened:Int
 ses:Nat→aI
 latest:Int
 last:Nat→Int
 hist:Nat→List (Int×Option Int)
def ap.room (X:ap):Int:=X.src.1.2
def keptN (X:ap):Nat→Nat
 |0=>0
 |n+1=>keptN X n+(X.hist n).length
def cw (S:aI):Nat→Nat
 |0=>0
 |n+1=>cw S n+(if (S.wr n).isSome then 1 else 0)
theorem pj (S:aI):∀ n,cw S n≤n
 |0=>Nat.le_refl 0
 |n+1=>by
  have:=pj S n
  show cw S n+(if (S.wr n).isSome then 1 else 0)≤n+1
  split <;> omega
theorem eJ {X Y:ap} (h:Y.hist=X.hist):∀ n,keptN Y n=keptN X n
 |0=>rfl
 |n+1=>by unfold keptN;rw[eJ h n,h]
theorem jW (X:ap):∀ {m n:Nat},m≤n→keptN X m≤keptN X n
 |m,0,h=>by
  have:m=0:=by omega
  subst this
  exact Nat.le_refl _
 |m,n+1,h=>by
  by_cases e:m=n+1
  ·subst e;exact Nat.le_refl _
  ·have:=jW X (m:=m) (n:=n) (by omega)
   show keptN X m≤keptN X n+(X.hist n).length
   omega
def aI.zero:aI:=⟨0,0,0,fun _=>none,fun _=>0,none⟩
def aI.new (n t:Int):aI:=⟨n,t,0,fun _=>none,fun _=>0,none⟩
def cH {α:Type} (f:Nat→α) (k:Nat) (v:α):Nat→α:=fun j=>if j=k then v else f j
theorem aW {α:Type} (f:Nat→α) (k:Nat) (v:α):cH f k v k=v:=by simp[cH]
theorem bE {α:Type} (f:Nat→α) (k:Nat) (v:α) {j:Nat} (h:j≠k):cH f k v j=f j:=by simp[cH,h]
def ap.setSes (X:ap) (k:Nat) (s:aI):ap:={ X with ses:=cH X.ses k s }
def aI.put (S:aI) (c:Nat) (v:Option Int):aI:={ S with made:=S.made+1,wr:=cH S.wr c (some v),tm:=cH S.tm c (S.snap+(S.made+1)) }
def ba (X:ap) (n:Int):Option Nat:=(List.range 8).find? fun k=>(X.ses k).num==n
def aL (X:ap) (n:Int):Option Nat:=if n<1 then none else ba X n
theorem bu {X:ap} {n:Int} {k:Nat} (h:ba X n=some k):k<8∧(X.ses k).num=n:=by
 unfold ba at h
 have h1:=List.mem_of_find?_eq_some h
 have h2:=List.find?_some h
 exact⟨by simpa using h1,by simpa using h2⟩
theorem kO {X:ap} {n:Int} (h:ba X n=none):∀ k,k<8→(X.ses k).num≠n:=by
 unfold ba at h
 rw[List.find?_eq_none] at h
 intro k hk
 simpa using h k (by simpa using hk)
def a8 (X:ap):(Int×Int)×ap:=match ba X 0 with
 |none=>((0,7),X)
 |some k=>((X.opened+1,0),{ X with opened:=X.opened+1,ses:=cH X.ses k (.new (X.opened+1) X.latest) })
def dM (s:ByteArray):Nat:=((bt s 0 - 97)*10+(bt s 1 - 48)).toNat
def cj (X:ap) (n:Int) (s:ByteArray):Int×ap:=match aL X n with
 |none=>(6,X)
 |some k=>if eP s then (0,X.setSes k ((X.ses k).put (dM s) (some (bt s 2 - 48)))) else (8,X)
def aY (X:ap) (n:Int) (s:ByteArray):Int×ap:=match aL X n with
 |none=>(6,X)
 |some k=>if eC s then (0,X.setSes k ((X.ses k).put (dM s) none)) else (8,X)
def iS (h:List (Int×Option Int)) (t:Int):Option Int:=match h.reverse.find? (fun p=>decide (p.1≤t)) with
 |some p=>p.2
 |none=>none
def aM (h:List (Int×Option Int)) (t:Int):Int×Option Int:=match h.reverse.find? (fun p=>decide (p.1≤t)) with
 |some p=>p
 |none=>(0,none)
theorem gn (h:List (Int×Option Int)) (t:Int):(aM h t).2=iS h t:=by
 unfold aM iS
 cases h.reverse.find? (fun p=>decide (p.1≤t)) <;> rfl
def jg (X:ap) (k c:Nat):Option Int:=match (X.ses k).wr c with
 |some v=>v
 |none=>iS (X.hist c) (X.ses k).snap
def cz (c:Nat) (v:Int):ByteArray:=strOfNums [97+(c:Int) / 10,48+(c:Int) % 10,48+v]
def ox (X:ap) (k:Nat):ByteArray:=cg ((List.range 60).filterMap fun c=>(jg X k c).map (cz c))
def fL (X:ap) (n:Int):ByteArray×Int:=match aL X n with
 |none=>(ByteArray.empty,6)
 |some k=>(ox X k,0)
def aX (X:ap) (n:Int):Int×ap:=match aL X n with
 |none=>(6,X)
 |some k=>(0,X.setSes k .zero)
def kC (S:aI):Bool:=(List.range 60).any fun c=>(S.wr c).isSome
def aI.ok (S:aI):Prop:=0≤S.made∧decide (0<S.made)=kC S
def clash (X:ap) (S:aI):Bool:=(List.range 60).any fun c=>(S.wr c).isSome&&decide (X.last c>S.snap)
def ap.commit (X:ap) (S:aI):ap:={ X with
 latest:=X.latest+1
 last:=fun c=>if (S.wr c).isSome then X.latest+1 else X.last c
 hist:=fun c=>match S.wr c with|some v=>X.hist c++[(X.latest+1,v)]|none=>X.hist c }
def jL (X:ap) (n:Int):(Int×Int)×ap:=match aL X n with
 |none=>((0,6),X)
 |some k=>if kC (X.ses k) then (if clash X (X.ses k) then ((0,10),X.setSes k .zero) else ((X.latest+1,0),(X.setSes k .zero).commit (X.ses k))) else ((0,0),X.setSes k .zero)
def iR (p:PW):Bool:=p.isSome
def gU (p:PW):Bool:=match p with|some (some _)=>true|_=>false
def q8 (p:PW):Int:=match p with|some (some v)=>v|_=>0
def Fi:Option Nat→Value
 |none=>.slice none 0 0
 |some g=>.slice (some ⟨g,0,none⟩) 9000 9000
structure cI (w:World) (b o:Nat) (S:aI):Prop where
 num:w.cell? ⟨b,o,none⟩=some (.int .i64 S.num)
 snap:w.cell? ⟨b,o+1,none⟩=some (.int .i64 S.snap)
 cnt:w.cell? ⟨b,o+2,none⟩=some (.int .i64 S.made)
 made:∀ c,c<60→w.cell? ⟨b,o+3+c*4,none⟩=some (.bool (iR (S.wr c)))
 filled:∀ c,c<60→w.cell? ⟨b,o+3+c*4+1,none⟩=some (.bool (gU (S.wr c)))
 val:∀ c,c<60→w.cell? ⟨b,o+3+c*4+2,none⟩=some (.int .i64 (q8 (S.wr c)))
 tm:∀ c,c<60→w.cell? ⟨b,o+3+c*4+3,none⟩=some (.int .i64 (S.tm c))
 mks:w.cell? ⟨b,o+243,none⟩=some (Fi S.mks)
 ok:S.ok
theorem CR (b o:Nat) (S:aI) (w:World) (h:cI w b o S) :
  Calls Tryz.prog 53 #[.pointer (some ⟨b,o,none⟩)] w fun e w'=>e=.returned (.bool (kC S))∧w'=w:=by
 have hc:=h.cnt
 have hk:=h.ok.2
 clear h
 obtain⟨r,hr⟩:∃ r,r=kC S:=⟨_,rfl⟩
 obtain⟨m,hm⟩:∃ m,m=S.made:=⟨_,rfl⟩
 rw[←hr,←hm] at hk
 rw[←hm] at hc
 rw[←hr]
 have HK:=af hk
 clear hr hm hk
 go_enter Tryz.func53,Tryz.ntmps53
 go_wp2
 go_ret
 exact⟨by rw[←HK.out];rfl,rfl⟩
def xu (w:World) (x:Nat) (X:ap):Prop:=∀ k,k<8→cI w x (3+k*244) (X.ses k)
def dm (x:Nat):Option Nat→Value
 |some k=>.pointer (some ⟨x,3+k*244,none⟩)
 |none=>.pointer none
theorem oP {X:ap} {n:Int} {k:Nat} (hk:k<8) (h:(X.ses k).num=n) (hno:∀ j,j<k→(X.ses j).num≠n):ba X n=some k:=by
 unfold ba
 rw[List.find?_eq_some_iff_getElem]
 refine⟨by simpa using h,k,by simpa using hk,by simp,?_⟩
 intro j hj
 simpa using hno j hj
theorem th {X:ap} {n:Int} (hno:∀ j,j<8→(X.ses j).num≠n):ba X n=none:=by
 unfold ba
 rw[List.find?_eq_none]
 intro j hj
 simpa using hno j (by simpa using hj)
theorem mH (x:Nat) (X:ap) (n:Int) (w:World) (h:xu w x X) :
  Calls Tryz.prog 40 #[.pointer (some ⟨x,0,none⟩),.int .i64 n] w fun e w'=>e=.returned (dm x (ba X n))∧w'=w:=by
 have HM:Hid (∀ k,k<8→w.cell? ⟨x,3+k*244,none⟩=some (.int .i64 (X.ses k).num)):=af (fun k hk=>(h k hk).num)
 clear h
 obtain⟨r,hr⟩:∃ r,r=dm x (ba X n):=⟨_,rfl⟩
 rw[←hr]
 have HR:=af hr
 clear hr
 go_enter Tryz.func40,Tryz.ntmps40
 go_wp2_with fail
 go_loop [5] (fun t=>∃ k:Nat,k≤8∧t=.int .i64 k∧∀ j,j<k→(X.ses j).num≠n) (fun t=>8 - (intOf t).toNat)
 case atStart=>exact⟨0,by omega,rfl,fun j h=>by omega⟩
 case round=>
  obtain⟨k,hk,rfl,hno⟩:=hrel
  have HN:=af hno
  clear hno
  by_cases hlt:k<8
  ·have d0:=HM.out k hlt
   obtain⟨nn,hnn⟩:∃ nn,nn=(X.ses k).num:=⟨_,rfl⟩
   rw[←hnn] at d0
   have HNN:=af hnn
   clear hnn
   by_cases he:nn=n
   ·have q:(nn==n)=true:=by simpa using he
    have HU:Hid (r=.pointer (some ⟨x,3+k*244,none⟩)):=af (by rw[HR.out,oP hlt (by rw[←HNN.out];exact he) HN.out];rfl)
    clear he
    go_wp2
    go_ret
    exact⟨by rw[HU.out];rfl,rfl⟩
   ·have q:(nn==n)=false:=by simpa using he
    have HN':Hid (∀ j,j<k+1→(X.ses j).num≠n):=af (by
     intro j hj
     by_cases e:j=k
     ·subst e;rw[←HNN.out];exact he
     ·exact HN.out j (by omega))
    clear he
    go_wp2
    go_round
    case rel=>exact⟨k+1,by omega,by go_num,HN'.out⟩
    case measure=>simp[intOf];omega
  ·have HU:Hid (r=.pointer none):=af (by rw[HR.out,th (fun j hj=>HN.out j (by omega))];rfl)
   go_wp2
   go_ret
   exact⟨by rw[HU.out];rfl,rfl⟩
theorem eX (x:Nat) (X:ap) (n:Int) (w:World) (h:xu w x X) :
  Calls Tryz.prog 41 #[.pointer (some ⟨x,0,none⟩),.int .i64 n] w fun e w'=>e=.returned (dm x (aL X n))∧w'=w:=by
 have HN:=af (mH x X n w h)
 clear h
 obtain⟨r,hr⟩:∃ r,r=dm x (aL X n):=⟨_,rfl⟩
 rw[←hr]
 by_cases hn:n<1
 ·have HU:Hid (r=.pointer none):=af (by rw[hr];unfold aL;rw[if_pos hn];rfl)
  clear hr HN
  go_enter Tryz.func41,Tryz.ntmps41
  go_wp2
  go_ret
  exact⟨by rw[HU.out];rfl,rfl⟩
 ·have hr2:dm x (ba X n)=r:=by rw[hr];unfold aL;rw[if_neg hn]
  rw[hr2] at HN
  clear hr hr2
  go_enter Tryz.func41,Tryz.ntmps41
  go_wp2_with fail
  go_at_call 40
  refine HN.out.mono ?_
  rintro e w' ⟨rfl,rfl⟩
  go_wp2
  go_ret
  exact⟨rfl,rfl⟩
def gG (s:ByteArray):Value:=if eC s then .tuple #[.int .i64 (dM s),.bool true] else .tuple #[.int .i64 0,.bool false]
def ju (s:ByteArray):Value:=if eP s then .tuple #[.int .i64 (dM s),.int .i64 (bt s 2 - 48),.bool true] else .tuple #[.int .i64 0,.int .i64 0,.bool false]
theorem qz (s:ByteArray) (w:World) (_hs63:s.size<9223372036854775808) :
  Calls Tryz.prog 47 #[.string s] w fun e w'=>e=.returned (gG s)∧w'=w:=by
 obtain⟨r,hr⟩:∃ r,r=gG s:=⟨_,rfl⟩
 rw[←hr]
 by_cases hs2:s.size=2
 ·have s0:0<s.size:=by omega
  have s1:1<s.size:=by omega
  have bb0:=bV s 0
  have bb1:=bV s 1
  have hb:eC s=(aQ (bt s 0)&&bM (bt s 1)):=by simp[eC,hs2]
  cases h0:aQ (bt s 0) with
  |false=>
   have HC0:=af (fun W=>nH (bt s 0) W bb0.1 bb0.2 h0)
   have HU:Hid (r=.tuple #[.int .i64 0,.bool false]):=af (by rw[hr];unfold gG;rw[hb,h0];rfl)
   rw[bg s0] at HC0
   cases h1:bM (bt s 1) with
   |false=>
    have HC1:=af (fun W=>jz (bt s 1) W bb1.1 bb1.2 h1)
    rw[bg s1] at HC1
    clear hb h0 h1 bb0 bb1 hr
    go_enter Tryz.func47,Tryz.ntmps47
    go_wp2_with fail
    go_at_call 82
    refine (HC0.out _).mono ?_
    rintro e w' ⟨rfl,rfl⟩
    go_wp2_with fail
    go_at_call 80
    refine (HC1.out _).mono ?_
    rintro e w' ⟨rfl,rfl⟩
    go_wp2
    go_ret2
    exact⟨by rw[HU.out];rfl,rfl⟩
   |true=>
    have HC1:=af (fun W=>iQ (bt s 1) W bb1.1 bb1.2 h1)
    rw[bg s1] at HC1
    clear hb h0 h1 bb0 bb1 hr
    go_enter Tryz.func47,Tryz.ntmps47
    go_wp2_with fail
    go_at_call 82
    refine (HC0.out _).mono ?_
    rintro e w' ⟨rfl,rfl⟩
    go_wp2_with fail
    go_at_call 80
    refine (HC1.out _).mono ?_
    rintro e w' ⟨rfl,rfl⟩
    go_wp2
    go_ret2
    exact⟨by rw[HU.out];rfl,rfl⟩
  |true=>
   have HC0:=af (fun W=>l9 (bt s 0) W bb0.1 bb0.2 h0)
   cases h1:bM (bt s 1) with
   |false=>
    have HU:Hid (r=.tuple #[.int .i64 0,.bool false]):=af (by rw[hr];unfold gG;rw[hb,h0,h1];rfl)
    have HC1:=af (fun W=>jz (bt s 1) W bb1.1 bb1.2 h1)
    rw[bg s0] at HC0
    rw[bg s1] at HC1
    clear hb h0 h1 bb0 bb1 hr
    go_enter Tryz.func47,Tryz.ntmps47
    go_wp2_with fail
    go_at_call 82
    refine (HC0.out _).mono ?_
    rintro e w' ⟨rfl,rfl⟩
    go_wp2_with fail
    go_at_call 80
    refine (HC1.out _).mono ?_
    rintro e w' ⟨rfl,rfl⟩
    go_wp2
    go_ret2
    exact⟨by rw[HU.out];rfl,rfl⟩
   |true=>
    have HC1:=af (fun W=>iQ (bt s 1) W bb1.1 bb1.2 h1)
    have hcb:97≤bt s 0∧bt s 0≤102:=by simpa [aQ] using h0
    have hdb:48≤bt s 1∧bt s 1≤57:=by simpa [bM] using h1
    have HU:Hid (r=.tuple #[.int .i64 ((bt s 0 - 97)*10+(bt s 1 - 48)),.bool true]):=af (by
     rw[hr];unfold gG;rw[hb,h0,h1]
     have:((dM s:Nat):Int)=(bt s 0 - 97)*10+(bt s 1 - 48):=by unfold dM;omega
     rw[←this];rfl)
    obtain⟨c0,hc0⟩:∃ c0,c0=bt s 0:=⟨_,rfl⟩
    obtain⟨c1,hc1⟩:∃ c1,c1=bt s 1:=⟨_,rfl⟩
    have e0:((s[0]'s0).toNat:Int)=c0:=by rw[hc0,bg s0]
    have e1:((s[1]'s1).toNat:Int)=c1:=by rw[hc1,bg s1]
    rw[←hc0,←hc1] at HU
    rw[←hc0] at HC0 hcb
    rw[←hc1] at HC1 hdb
    clear hb h0 h1 bb0 bb1 hr hc0 hc1
    go_enter Tryz.func47,Tryz.ntmps47
    go_wp2_with fail
    go_at_call 82
    refine (HC0.out _).mono ?_
    rintro e w' ⟨rfl,rfl⟩
    go_wp2_with fail
    go_at_call 80
    refine (HC1.out _).mono ?_
    rintro e w' ⟨rfl,rfl⟩
    go_wp2
    go_ret2
    exact⟨by rw[HU.out];rfl,rfl⟩
 ·have HU:Hid (r=.tuple #[.int .i64 0,.bool false]):=af (by rw[hr];simp[gG,eC,hs2])
  clear hr
  go_enter Tryz.func47,Tryz.ntmps47
  go_wp2
  go_ret2
  exact⟨by rw[HU.out];rfl,rfl⟩
end Go.Proofs.YthlhbjnkohinmaaGreat
