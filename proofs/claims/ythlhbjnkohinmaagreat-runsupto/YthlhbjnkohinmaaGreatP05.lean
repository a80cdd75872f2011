import Derived.Test.YthlhbjnkohinmaaGreatP04
import Derived.Test.YthlhbjnkohinmaaGreatProg
import Derived.Test.YthlhbjnkohinmaaGreatP00
import Derived.WalkKit
import Derived.WalkSpells
import Derived.WalkLawsBesides
import Derived.Lib.Strings
namespace Go.Proofs.YthlhbjnkohinmaaGreat
set_option maxRecDepth 100000
set_option maxHeartbeats 8000000
open Go.RowKit
def ie (s:ByteArray) (p:Nat) (bs:Nat→Bool):Bool:=e8 bs (dg s p).a1 (dg s p).a2||e8 bs (dg s p).b1 (dg s p).b2
def tT (s:ByteArray) (p:Nat) (bs:Nat→Bool):Nat→Bool:=ja (ja bs (dg s p).a1 (dg s p).a2) (dg s p).b1 (dg s p).b2
def js (s:ByteArray) (p:Nat) (bs:Nat→Bool):Bool:=e8 bs (d9 s p).a1 (d9 s p).a2||e8 bs (d9 s p).b1 (d9 s p).b2
def b8 (s:ByteArray):List Nat→(Nat→Bool)→Option (Nat→Bool)
 |[],bs=>some bs
 |p::L,bs=>if (dg s p).k=1 then b8 s L (tT s p bs) else if ie s p bs then none else b8 s L bs
def iw (s:ByteArray) (K:List Nat) (bs:Nat→Bool):Bool:=K.any fun p=>js s p bs
def mt (s:ByteArray) (L K:List Nat):Bool:=match b8 s L (fun _=>false) with|none=>true|some bs=>iw s K bs
theorem eR (s:ByteArray):∀ (A B:List Nat) (bs:Nat→Bool),b8 s (A++B) bs=(b8 s A bs).bind (b8 s B)
 |[],B,bs=>rfl
 |p::A,B,bs=>by
  simp only[List.cons_append,b8]
  split
  ·exact eR s A B _
  ·split
   ·rfl
   ·exact eR s A B _
theorem jr {s:ByteArray} {L:List Nat} {k:Nat} {b0 bs:Nat→Bool} (hk:k<L.length) (h:b8 s (L.take k) b0=some bs) :
  b8 s (L.take (k+1)) b0=if (dg s L[k]).k=1 then some (tT s L[k] bs) else if ie s L[k] bs then none else some bs:=by
 rw[List.take_succ_eq_append_getElem hk,eR,h]
 simp only[Option.bind_some,b8]
theorem lL {s:ByteArray} {L:List Nat} {k:Nat} {b0:Nat→Bool} (h:b8 s (L.take k) b0=none):b8 s L b0=none:=by
 rw[←List.take_append_drop k L,eR,h];rfl
theorem ki (c:Int) (h:dw c=2):0≤dC c∧dC c<4:=by
 unfold dw at h;unfold dC
 split at h
 ·omega
 ·split at h
  ·rename_i h1 h2
   have:119≤c∧c≤122:=by simpa [ew] using h2
   simp only[h1,h2]
   simp
   omega
  ·omega
theorem F4 (s:ByteArray) (i:Nat):((dg s i).a1=2→0≤(dg s i).a2∧(dg s i).a2<4)∧((dg s i).b1=2→0≤(dg s i).b2∧(dg s i).b2<4):=by
 unfold dg
 split
 ·exact⟨ki _,ki _⟩
 ·split
  ·exact⟨ki _,ki _⟩
  ·exact⟨ki _,ki _⟩
theorem F3 (s:ByteArray) (i:Nat):((d9 s i).a1=2→0≤(d9 s i).a2∧(d9 s i).a2<4)∧((d9 s i).b1=2→0≤(d9 s i).b2∧(d9 s i).b2<4):=by
 unfold d9
 split
 ·exact⟨ki _,ki _⟩
 ·split
  ·exact⟨ki _,fun h=>by simp[vH] at h⟩
  ·exact⟨fun h=>by simp at h,fun h=>by simp at h⟩
theorem Fz (w:World):Bd (w.alloc (.cells #[.bool false,.bool false,.bool false,.bool false] 231)) w.heap.size (fun _=>false):=heap_alloc_new w _
theorem aK {w W w3:World} {r row:Option Nat} (h:w.grownBy W r) (k:W.grownBy w3 row) (hrow:∀ g,row=some g→w.heap.size≤g):w.grownBy w3 r:=
 ⟨k.os.trans h.os,k.tape.trans h.tape,k.output.trans h.output,Nat.le_trans h.size k.size,fun i hi hb=>(k.block i (Nat.lt_of_lt_of_le hi h.size) (fun e=>by have:=hrow i e.symm;omega)).trans (h.block i hi hb)⟩
theorem uH (s:ByteArray) (L K:List Nat) (x:Int) (a1 a2:Option Addr) (m1 c1 m2 c2 B:Nat) (w:World) (hL:L.length≤400) (hK:K.length≤400)
  (h1:w.ownsRow B 206 7 (.slice a1 m1 c1) L.length (dp s L)) (h2:w.ownsRow B 219 8 (.slice a2 m2 c2) K.length (dQ s K)) :
  Calls Tryz.prog 103 #[.agg #[.int .i64 x,.slice a1 m1 c1,.slice a2 m2 c2]] w fun e w'=>e=.returned (.bool (mt s L K))∧w.grownBy w' none:=by
 have e1:=ar h1
 have e2:=ar h2
 subst e1 e2
 have hfun:∃ q,q=mt s L K:=⟨_,rfl⟩
 obtain⟨q,hq⟩:=hfun
 have HQ:=af hq
 rw[←hq]
 clear hq
 go_enter Tryz.func103,Tryz.ntmps103
 go_wp2_with fail
 go_loopw [11] (fun t wr=>∃ (k:Nat) (bs:Nat→Bool),k≤L.length∧t=.int .i64 k∧w.grownBy wr none∧Bd wr (w.heap.size+1) bs∧wr.cell? ⟨w.heap.size,2,none⟩=some (.slice a2 K.length c2)∧w.heap.size+1<wr.heap.size∧b8 s (L.take k) (fun _=>false)=some bs) (fun t _=>L.length - (intOf t).toNat)
 case atStart=>
  refine⟨0,fun _=>false,Nat.zero_le _,rfl,ab (ab (ag _ _) _) _,?_,by simp[go_sem],by simp,rfl⟩
  have h:=Fz (w.alloc (.cells #[.int .i64 x,.slice a1 L.length c1,.slice a2 K.length c2] 169))
  simpa using h
 case round=>
  obtain⟨k,bs,hk,rfl,hg,hbd,hbx,hsz,hbo⟩:=hrel
  have HBO:=af hbo
  clear hbo
  have hz1:w.heap.size+1≠wr.heap.size:=by omega
  have hz2:wr.heap.size≠w.heap.size+1:=by omega
  by_cases hlt:k<L.length
  ·obtain⟨g,rfl,hgl,hgb,d0,d1,d2,d3,d4,d5,d6⟩:=rJ h1 hg (fun g hg=>by cases hg) hlt
   obtain⟨hv1,hv2⟩:=F4 s L[k]
   have HT:=af (jr hlt HBO.out)
   by_cases hk1:(dg s L[k]).k=1
   ·have HA1:=af (fun (W:World) (hW:Bd W (w.heap.size+1) bs)=>yV bs (dg s L[k]).a1 (dg s L[k]).a2 (w.heap.size+1) W hW hv1)
    have HA2:=af (fun (W:World) (hW:Bd W (w.heap.size+1) (ja bs (dg s L[k]).a1 (dg s L[k]).a2))=>yV (ja bs (dg s L[k]).a1 (dg s L[k]).a2) (dg s L[k]).b1 (dg s L[k]).b2 (w.heap.size+1) W hW hv2)
    rw[if_pos hk1] at HT
    clear hv1 hv2
    go_wp2_with fail
    go_at_call 126
    refine (HA1.out _ (hbd.alloc _)).mono ?_
    rintro e w2 ⟨rfl,hb2,hg2⟩
    obtain⟨hc2,hf2⟩:=aU hg2
    go_wp2_with fail
    go_at_call 126
    refine (HA2.out _ hb2).mono ?_
    rintro e w3 ⟨rfl,hb3,hg3⟩
    have hg':w.grownBy w3 none:=aK (aK (ab hg _) hg2 (fun g hg=>by cases hg;omega)) hg3 (fun g hg=>by cases hg;omega)
    have hbx':w3.cell? ⟨w.heap.size,2,none⟩=some (.slice a2 K.length c2):=hg3.cell (hg2.cell (a:=⟨w.heap.size,2,none⟩) (by rw[World.cell?_alloc_past _ _ _ (by omega)];exact hbx) (by simp)) (by simp)
    have hsz':w.heap.size+1<w3.heap.size:=by have:=hg2.size;have:=hg3.size;simp at *;omega
    clear hg2 hg3 hc2 hf2 hb2 hbd hbx hg
    go_wp2
    go_roundw
    case rel=>exact⟨k+1,_,by omega,by go_num,hg',hb3,hbx',hsz',HT.out⟩
    case measure=>simp[intOf];omega
   ·have hk2:((dg s L[k]).k==1)=false:=by simpa using hk1
    rw[if_neg hk1] at HT
    have HLK:=af (fun (W:World) (hW:Bd W (w.heap.size+1) bs)=>rY bs (dg s L[k]).a1 (dg s L[k]).a2 (dg s L[k]).b1 (dg s L[k]).b2 (w.heap.size+1) W hW hv1 hv2)
    clear hv1 hv2
    change Hid (∀ (W:World) (hW:Bd W (w.heap.size+1) bs),Calls Tryz.prog 127 _ W fun e w'=>e=.returned (.bool (ie s L[k] bs))∧W.grownBy w' none) at HLK
    by_cases hlk:ie s L[k] bs=true
    ·rw[if_pos hlk] at HT
     rw[hlk] at HLK
     have HU:Hid (q=true):=af (by rw[HQ.out];unfold mt;rw[lL HT.out])
     go_wp2_with fail
     go_at_call 127
     refine (HLK.out _ (hbd.alloc _)).mono ?_
     rintro e w2 ⟨rfl,hg2⟩
     go_wp2
     go_ret
     exact⟨cY HU.out.symm,ae (ab hg _) hg2⟩
    ·rw[if_neg hlk] at HT
     have hlk':ie s L[k] bs=false:=by simpa using hlk
     rw[hlk'] at HLK
     go_wp2_with fail
     go_at_call 127
     refine (HLK.out _ (hbd.alloc _)).mono ?_
     rintro e w2 ⟨rfl,hg2⟩
     have hb2:=(hbd.alloc _).kept hg2 (by simp)
     have hbx':w2.cell? ⟨w.heap.size,2,none⟩=some (.slice a2 K.length c2):=hg2.cell (a:=⟨w.heap.size,2,none⟩) (by rw[World.cell?_alloc_past _ _ _ (by omega)];exact hbx) (by simp)
     have hsz':w.heap.size+1<w2.heap.size:=by have:=hg2.size;simp at *;omega
     have hg':w.grownBy w2 none:=ae (ab hg _) hg2
     clear hg2 hbd hbx hg
     go_wp2
     go_roundw
     case rel=>exact⟨k+1,_,by omega,by go_num,hg',hb2,hbx',hsz',HT.out⟩
     case measure=>simp[intOf];omega
  ·have HBO':Hid (b8 s L (fun _=>false)=some bs):=af (by have:=HBO.out;rwa [List.take_of_length_le (by omega)] at this)
   have HU:Hid (q=iw s K bs):=af (by rw[HQ.out];unfold mt;rw[HBO'.out])
   clear HBO
   go_wp2_with fail
   go_loopw [33] (fun t wr=>∃ (k:Nat),k≤K.length∧t=.int .i64 k∧w.grownBy wr none∧Bd wr (w.heap.size+1) bs∧iw s (K.take k) bs=false) (fun t _=>K.length - (intOf t).toNat)
   case atStart=>exact⟨0,Nat.zero_le _,rfl,hg,hbd,rfl⟩
   case round=>
    clear hg hbd hbx hsz hz1 hz2
    obtain⟨k',hk',rfl,hg,hbd,hla⟩:=hrel
    have HLA:=af hla
    clear hla
    by_cases hlt':k'<K.length
    ·obtain⟨g,rfl,hgl,hgb,d0,d1,d2,d3,d4,d5,d6,d7⟩:=Bk h2 hg (fun g hg=>by cases hg) hlt'
     obtain⟨hv1,hv2⟩:=F3 s K[k']
     have HLK:=af (fun (W:World) (hW:Bd W (w.heap.size+1) bs)=>rY bs (d9 s K[k']).a1 (d9 s K[k']).a2 (d9 s K[k']).b1 (d9 s K[k']).b2 (w.heap.size+1) W hW hv1 hv2)
     clear hv1 hv2
     change Hid (∀ (W:World) (hW:Bd W (w.heap.size+1) bs),Calls Tryz.prog 127 _ W fun e w'=>e=.returned (.bool (js s K[k'] bs))∧W.grownBy w' none) at HLK
     have HT:Hid (iw s (K.take (k'+1)) bs=js s K[k'] bs):=af (by
      have:=HLA.out
      unfold iw at this ⊢
      rw[List.take_succ_eq_append_getElem hlt',List.any_append,this];simp)
     by_cases hlk:js s K[k'] bs=true
     ·rw[hlk] at HLK
      have HU':Hid (q=true):=af (by
       rw[HU.out]
       have:=HT.out
       rw[hlk] at this
       unfold iw at this ⊢
       rw[←List.take_append_drop (k'+1) K,List.any_append,this];simp)
      go_wp2_with fail
      go_at_call 127
      refine (HLK.out _ (hbd.alloc _)).mono ?_
      rintro e w2 ⟨rfl,hg2⟩
      go_wp2
      go_ret
      exact⟨cY HU'.out.symm,ae (ab hg _) hg2⟩
     ·have hlk':js s K[k'] bs=false:=by simpa using hlk
      rw[hlk'] at HLK HT
      go_wp2_with fail
      go_at_call 127
      refine (HLK.out _ (hbd.alloc _)).mono ?_
      rintro e w2 ⟨rfl,hg2⟩
      have hb2:=(hbd.alloc _).kept hg2 (by simp)
      have hg':w.grownBy w2 none:=ae (ab hg _) hg2
      clear hg2 hbd hg
      go_wp2
      go_roundw
      case rel=>exact⟨k'+1,by omega,by go_num,hg',hb2,HT.out⟩
      case measure=>simp[intOf];omega
    ·have HU':Hid (q=false):=af (by rw[HU.out];have:=HLA.out;rwa [List.take_of_length_le (by omega)] at this)
     go_wp2
     go_ret
     exact⟨cY HU'.out.symm,hg⟩
def jK (s:ByteArray) (R:List ax) (k:Nat):Prop:=∃ h:k<R.length,mt s R[k].2.1 R[k].2.2=true
theorem nQ (s:ByteArray) (R:List ax) (B:Nat) (v:Value) (w:World) (hR:R.length≤400) (hlen:∀ k (h:k<R.length),R[k].2.1.length≤400∧R[k].2.2.length≤400) (h:bQ w B s v R) :
  Calls Tryz.prog 75 #[v] w fun e w'=>∃ o,bI (jK s R) R.length o∧e=.returned (rX o)∧w.grownBy w' none:=by
 obtain⟨xs,hown,hpar⟩:=h
 obtain⟨a,m,c,rfl⟩:=an hown
 have e1:=ar hown
 subst e1
 have HLEN:=af hlen
 clear hlen
 go_enter Tryz.func75,Tryz.ntmps75
 go_wp2_with fail
 go_loopw [8] (fun t wr=>∃ k:Nat,k≤R.length∧t=.int .i64 k∧w.grownBy wr none∧∀ j,j<k→¬jK s R j) (fun t _=>R.length - (intOf t).toNat)
 case atStart=>exact⟨0,Nat.zero_le _,rfl,ag _ _,fun j hj=>by omega⟩
 case round=>
  obtain⟨k,hk,rfl,hg,hno⟩:=hrel
  have HN:=af hno
  clear hno
  by_cases hlt:k<R.length
  ·obtain⟨a1,m1,c1,a2,m2,c2,x0,x1,x2,o1,o2⟩:=jT R xs hpar k hlt
   obtain⟨g,rfl,_,hgb,hgl,hcell⟩:=aC hown (by omega)
   have d0:=hg.cell (hcell _ _ x0) (by simp)
   have d1:=hg.cell (hcell _ _ x1) (by simp)
   have d2:=hg.cell (hcell _ _ x2) (by simp)
   have o1':=aq o1 hg (fun g hg=>by cases hg)
   have o2':=aq o2 hg (fun g hg=>by cases hg)
   clear hcell x0 x1 x2 o1 o2
   have HOV:=af (uH s R[k].2.1 R[k].2.2 (bt s R[k].1 - 48) a1 a2 m1 c1 m2 c2 B _ (HLEN.out k hlt).1 (HLEN.out k hlt).2 (o1'.alloc (.cells #[.int .i64 (bt s R[k].1 - 48),.slice a1 m1 c1,.slice a2 m2 c2] 169)) (o2'.alloc _))
   clear o1' o2'
   by_cases hb:mt s R[k].2.1 R[k].2.2=true
   ·rw[hb] at HOV
    have HB:=af hb
    clear hb
    go_wp2_with (go_at_call 103;refine HOV.out.mono ?_;rintro e w2 ⟨rfl,hg2⟩)
    go_ret2
    exact⟨some k,⟨hlt,⟨hlt,HB.out⟩,HN.out⟩,rfl,ae (ab hg _) hg2⟩
   ·have hb':mt s R[k].2.1 R[k].2.2=false:=by simpa using hb
    rw[hb'] at HOV
    have HB:=af hb
    clear hb hb'
    go_wp2_with (go_at_call 103;refine HOV.out.mono ?_;rintro e w2 ⟨rfl,hg2⟩)
    go_roundw
    case rel=>
     refine⟨k+1,by omega,by go_num,ae (ab hg _) hg2,?_⟩
     intro j hj
     by_cases e:j=k
     ·subst e;rintro⟨_,h⟩;exact HB.out h
     ·exact HN.out j (by omega)
    case measure=>simp[intOf];omega
  ·go_wp2
   go_ret2
   refine⟨none,?_,rfl,hg⟩
   intro j hj
   exact HN.out j (by omega)
theorem Fx {s:ByteArray} {i:Nat} {L K:List Nat} {j:Nat} {ok:Bool} (h:rk s i L K j ok):i≤j:=by
 rcases h with ⟨_,_,_,e,_⟩|⟨_,_,_,_,e,_⟩|⟨_,_,h1,_,_⟩|⟨_,_,_,h1,h2⟩
 ·omega
 ·omega
 ·have:=sQ h1;omega
 ·have:=sQ h1;have:=wJ h2;omega
theorem pb {s:ByteArray} {i:Nat} {R:List ax} {j:Nat} {ok:Bool} (h:kJ s i R j ok):i+R.length≤j:=
 kJ.ind (M:=fun i R j _=>i+R.length≤j) (fun _ _=>by simp) (fun _ _ _ _ _ h=>by have:=Fx h;simpa using this) (fun _ _ _ _ _ _ _ _ h _ ih=>by have:=BO h;simp;omega) h
theorem mu {s:ByteArray} {R:List ax} (h:bI (iU s R) R.length none) (k:Nat) (hk:k<R.length):R[k].2.1.length≤5∧R[k].2.2.length≤4∧k<9:=by
 have h0:=h k hk
 have h1:¬(9≤k∨io s R[k].2.1 R[k].2.2=true):=fun hx=>h0 ⟨hk,hx⟩
 simp only[io,not_or,Bool.or_eq_true,decide_eq_true_eq] at h1
 omega
def cA (s:ByteArray) (x p:Int) (o:Option (List ax)):Prop:=
 (400<s.size∧x=1∧p=0∧o=none)∨
 (∃ (R:List ax) (j:Nat),s.size≤400∧kJ s 0 R j false∧x=2∧p=j∧o=none)∨
 (∃ (R:List ax) (j m:Nat),s.size≤400∧kJ s 0 R j true∧bI (iU s R) R.length (some m)∧x=3∧p=m∧o=none)∨
 (∃ (R:List ax) (j m:Nat),s.size≤400∧kJ s 0 R j true∧bI (iU s R) R.length none∧bI (jK s R) R.length (some m)∧x=4∧p=m∧o=none)∨
 (∃ (R:List ax) (j:Nat),s.size≤400∧kJ s 0 R j true∧bI (iU s R) R.length none∧bI (jK s R) R.length none∧x=0∧p=0∧o=some R)
theorem cA.long {s:ByteArray} (h:400<s.size):cA s 1 0 none:=.inl ⟨h,rfl,rfl,rfl⟩
theorem cA.form {s:ByteArray} {R:List ax} {j:Nat} (h:s.size≤400) (h1:kJ s 0 R j false):cA s 2 j none:=.inr (.inl ⟨R,j,h,h1,rfl,rfl,rfl⟩)
theorem cA.many {s:ByteArray} {R:List ax} {j m:Nat} (h:s.size≤400) (h1:kJ s 0 R j true) (h2:bI (iU s R) R.length (some m)):cA s 3 m none:=.inr (.inr (.inl ⟨R,j,m,h,h1,h2,rfl,rfl,rfl⟩))
theorem cA.unbound {s:ByteArray} {R:List ax} {j m:Nat} (h:s.size≤400) (h1:kJ s 0 R j true) (h2:bI (iU s R) R.length none) (h3:bI (jK s R) R.length (some m)):cA s 4 m none:=.inr (.inr (.inr (.inl ⟨R,j,m,h,h1,h2,h3,rfl,rfl,rfl⟩)))
theorem cA.ok {s:ByteArray} {R:List ax} {j:Nat} (h:s.size≤400) (h1:kJ s 0 R j true) (h2:bI (iU s R) R.length none) (h3:bI (jK s R) R.length none):cA s 0 0 (some R):=.inr (.inr (.inr (.inr ⟨R,j,h,h1,h2,h3,rfl,rfl,rfl⟩)))
def Dq (w:World) (s:ByteArray) (e:Ending) (w':World):Prop:=
 ∃ v x p o,e=.returned (.tuple #[v,.int .i64 x,.int .i64 p])∧cA s x p o∧(∀ R,o=some R→bQ w' w.heap.size s v R)∧(o=none→v=.slice none 0 0)∧w.grownBy w' none
theorem jn {w w':World} {B:Nat} {s:ByteArray} {v:Value} {R:List ax} (h:bQ w B s v R) (hg:w.grownBy w' none):bQ w' B s v R:=by
 obtain⟨xs,h1,h2⟩:=h
 exact⟨xs,aq h1 hg (fun g hg=>by cases hg),fB hg (fun g hg=>by cases hg) R xs h2⟩
theorem qU {w:World} {B B':Nat} {s:ByteArray} {v:Value} {R:List ax} (hb:B'≤B) (h:bQ w B s v R):bQ w B' s v R:=by
 obtain⟨xs,h1,h2⟩:=h
 refine⟨xs,bO h1 hb,?_⟩
 clear h1
 induction R generalizing xs with
 |nil=>exact h2
 |cons r R ih=>
  obtain⟨b1,n1,d1,b2,n2,d2,ys,e,k1,k2,k3⟩:=h2
  exact⟨b1,n1,d1,b2,n2,d2,ys,e,bO k1 hb,bO k2 hb,ih ys k3⟩
theorem Dc (s:ByteArray) (w:World) (hs:s.size≤maxLen) :
  Calls Tryz.prog 38 #[.string s] w (Dq w s):=by
 unfold maxLen at hs
 by_cases h400:400<s.size
 ·go_enter Tryz.func38,Tryz.ntmps38
  go_wp2
  go_ret3
  exact⟨_,_,_,none,rfl,.long h400,(fun R h=>by cases h),(fun _=>rfl),ag _ _⟩
 ·have h4:s.size≤400:=by omega
  have hr:Rd (w.alloc (.cells #[.string s,.int .i64 0] 147)) w.heap.size s 0:=heap_alloc_new w _
  go_enter Tryz.func38,Tryz.ntmps38
  go_wp2_with fail
  go_at_call 73
  refine (Bz s w.heap.size 0 _ ⟨h4,by omega⟩ hr).mono ?_
  rintro e w1 ⟨R,j,ok,v,rfl,hrls,hown,hj,hr1,hg1⟩
  have hg1':w.grownBy w1 none:=aK (ab (ag _ _) _) hg1 (fun g hg=>by cases hg;exact Nat.le_refl _)
  have c1:=hr1.c1
  have HR:=af hrls
  have hlen:=pb hrls
  clear hrls hr hr1
  cases ok
  ·go_wp2_with fail
   go_quiet ((fail))
   go_wp2
   go_ret3
   exact⟨_,_,_,none,rfl,.form h4 HR.out,(fun R h=>by cases h),(fun _=>rfl),al hg1' _⟩
  ·replace hown:=hown rfl
   have hown':=qU (B':=w.heap.size) (by simp) hown
   go_wp2_with fail
   go_at_call 74
   refine (nw s R w.heap.size v _ (by omega) hown').mono ?_
   rintro e w2 ⟨o,ho,rfl,hg2⟩
   have hown2:=jn hown' hg2
   have HO:=af ho
   cases o with
   |some m=>
    unfold rX
    go_wp2
    go_ret3
    exact⟨_,_,_,none,rfl,.many h4 HR.out HO.out,(fun R h=>by cases h),(fun _=>rfl),ae hg1' hg2⟩
   |none=>
    have HL:=af (mu ho)
    clear ho
    unfold rX
    go_wp2_with fail
    go_at_call 75
    refine (nQ s R w.heap.size v _ (by omega) (fun k hk=>by have:=HL.out k hk;omega) hown2).mono ?_
    rintro e w3 ⟨o,ho,rfl,hg3⟩
    have hown3:=jn hown2 hg3
    have HO2:=af ho
    clear ho
    cases o with
    |some m=>
     unfold rX
     go_wp2
     go_ret3
     exact⟨_,_,_,none,rfl,.unbound h4 HR.out HO.out HO2.out,(fun R h=>by cases h),(fun _=>rfl),ae (ae hg1' hg2) hg3⟩
    |none=>
     unfold rX
     go_wp2
     go_ret3
     exact⟨_,_,_,some R,rfl,.ok h4 HR.out HO.out HO2.out,(fun R' h=>by cases h;exact hown3),(fun h=>by cases h),ae (ae hg1' hg2) hg3⟩
theorem cA.zero {s:ByteArray} {x p:Int} {o:Option (List ax)} (h:cA s x p o):(x=0∧p=0∧∃ R,o=some R)∨(1≤x∧x≤4∧o=none):=by
 rcases h with ⟨_,rfl,rfl,rfl⟩|⟨R,j,_,_,rfl,rfl,rfl⟩|⟨R,j,m,_,_,_,rfl,rfl,rfl⟩|⟨R,j,m,_,_,_,_,rfl,rfl,rfl⟩|⟨R,j,_,_,_,_,rfl,rfl,rfl⟩
 ·right;exact⟨by omega,by omega,rfl⟩
 ·right;exact⟨by omega,by omega,rfl⟩
 ·right;exact⟨by omega,by omega,rfl⟩
 ·right;exact⟨by omega,by omega,rfl⟩
 ·left;exact⟨rfl,rfl,_,rfl⟩
def Ez (w:World) (s:ByteArray) (room:Int) (e:Ending) (w':World):Prop:=
 ∃ x p o,cA s x p o∧w.grownBy w' none∧
   ((1≤x∧x≤4∧e=.returned (.tuple #[.pointer none,.int .i64 x,.int .i64 p]))∨
    (x=0∧(room<1∨999<room)∧e=.returned (.tuple #[.pointer none,.int .i64 5,.int .i64 0]))∨
    (x=0∧1≤room∧room≤999∧∃ g R v,o=some R∧e=.returned (.tuple #[.pointer (some ⟨g,0,none⟩),.int .i64 0,.int .i64 0])∧w.heap.size≤g∧w'.heap[g]?=some (.cells ((Tryz.zeroCells91.setIfInBounds 0 v).setIfInBounds 1 (.int .i64 room)) 91 (0,0))∧bQ w' w.heap.size s v R))
theorem EA (s:ByteArray) (room:Int) (w:World) (hs:s.size≤maxLen) :
  Calls Tryz.prog 16 #[.string s,.int .i64 room] w (Ez w s room):=by
 go_enter Tryz.func16,Tryz.ntmps16
 go_wp2_with fail
 go_at_call 38
 refine (Dc s w hs).mono ?_
 rintro e w1 ⟨v,x,p,o,rfl,ha,ho,hn,hg⟩
 have HA:=af ha
 rcases ha.zero with ⟨rfl,rfl,R,rfl⟩|⟨hx1,hx2,rfl⟩
 ·have HO:=af (ho R rfl)
  obtain⟨xs,hown,hpar⟩:=ho R rfl
  obtain⟨a,m,c,rfl⟩:=an hown
  clear hpar hown ho ha hn
  by_cases h1:room<1
  ·go_wp2
   go_ret3
   exact⟨_,_,_,HA.out,hg,.inr (.inl ⟨rfl,.inl h1,rfl⟩)⟩
  ·by_cases h2:999<room
   ·go_wp2
    go_ret3
    exact⟨_,_,_,HA.out,hg,.inr (.inl ⟨rfl,.inr h2,rfl⟩)⟩
   ·have hsz:=hg.size
    go_wp2
    go_ret3
    exact⟨_,_,_,HA.out,ab hg _,.inr (.inr ⟨rfl,by omega,by omega,w1.heap.size,R,_,rfl,rfl,hsz,heap_alloc_new w1 _,jn HO.out (World.grownBy_alloc w1 _ none)⟩)⟩
 ·have hv:=hn rfl
  subst hv
  have hx0:(x != 0)=true:=by simp;omega
  clear ho ha hn
  go_wp2
  go_ret3
  exact⟨_,_,_,HA.out,hg,.inl ⟨hx1,hx2,rfl⟩⟩
theorem aS {w:World} {base:Nat} {e t:TypeId} {size:Nat} {v:Value} {n:Nat} {xs:List Value} {g:Nat} {cs:Array Value} (h:w.ownsRow base e size v n xs) (hk:w.heap[g]?=some (.cells cs t (0,0))) (ht:e≠t):v.ownBlock≠some g:=by
 intro hx
 obtain⟨cs',hc⟩:=fu h g hx
 rw[hc] at hk;simp at hk;exact ht hk.2
theorem du {w w':World} {base:Nat} {e:TypeId} {size:Nat} {v:Value} {n:Nat} {xs:List Value} (h:w.ownsRow base e size v n xs) (hw:w'.heap=w.heap):w'.ownsRow base e size v n xs:=by
 unfold World.ownsRow at h ⊢
 rw[hw];exact h
theorem iI {w w':World} (h:w'.heap=w.heap) (a:Addr):w'.cell? a=w.cell? a:=by simp[World.cell?,h]
theorem bj {w:World} {xs:List Value} {t:TypeId} {j:Nat} {u:Value} (h:xs[j]?=some u):(w.alloc (.cells xs.toArray t)).cell? ((⟨w.heap.size,0,none⟩:Addr).add j)=some u:=by
 have hadd:(⟨w.heap.size,0,none⟩:Addr).add j=⟨w.heap.size,j,none⟩:=by unfold Addr.add;split <;> simp_all
 rw[hadd,World.cell?_alloc_at _ _ _ _ rfl]
 simpa using h
theorem eW (c:Int) (w:World) (h0:0≤c) (h1:c≤255) :
  Calls Tryz.prog 46 #[.int .u8 c] w fun e w'=>e=.returned (.bool (bM c))∧w=w':=by
 go_enter Tryz.func46,Tryz.ntmps46
 go_wp2
 all_goals
  go_ret
  exact⟨cY (by simp[bM];omega),rfl⟩
theorem qy (c:Int) (w:World) (h0:0≤c) (h1:c≤255) :
  Calls Tryz.prog 130 #[.int .u8 c] w fun e w'=>e=.returned (.bool (ew c))∧w=w':=by
 go_enter Tryz.func130,Tryz.ntmps130
 go_wp2
 all_goals
  go_ret
  exact⟨cY (by simp[ew];omega),rfl⟩
theorem gP (c:Int) (w:World) (h0:0≤c) (h1:c≤255) :
  Calls Tryz.prog 45 #[.int .u8 c] w fun e w'=>e=.returned (.bool (aQ c))∧w=w':=by
 go_enter Tryz.func45,Tryz.ntmps45
 go_wp2
 all_goals
  go_ret
  exact⟨cY (by simp[aQ];omega),rfl⟩
theorem nj (c:Int) (w:World) (_h0:0≤c) (_h1:c≤255) :
  Calls Tryz.prog 120 #[.int .u8 c] w fun e w'=>e=.returned (.bool (e9 c))∧w=w':=by
 go_enter Tryz.func120,Tryz.ntmps120
 go_wp2
 all_goals
  go_ret
  exact⟨cY (by simp[e9, *]),rfl⟩
theorem lW (c:Int) (w:World) (h0:0≤c) (h1:c≤255) :
  Calls Tryz.prog 128 #[.int .u8 c] w fun e w'=>e=.returned (.bool (bc c))∧w=w':=by
 go_enter Tryz.func128,Tryz.ntmps128
 go_wp2_with (first|(go_at_call 46;refine (eW _ _ (by omega) (by omega)).mono ?_;rintro e w' ⟨rfl,rfl⟩)|(go_at_call 130;refine (qy _ _ (by omega) (by omega)).mono ?_;rintro e w' ⟨rfl,rfl⟩))
 all_goals
  go_ret
  exact⟨cY (by simp[bc, *]),rfl⟩
theorem Cl (c:Int) (w:World) (h0:0≤c) (h1:c≤255) :
  Calls Tryz.prog 129 #[.int .u8 c] w fun e w'=>e=.returned (.bool (c8 c))∧w=w':=by
 go_enter Tryz.func129,Tryz.ntmps129
 go_wp2_with (go_at_call 128;refine (lW _ _ (by omega) (by omega)).mono ?_;rintro e w' ⟨rfl,rfl⟩)
 all_goals
  go_ret
  exact⟨cY (by simp[c8, *]),rfl⟩
theorem Bx (q c:Int) (w:World) (h0:0≤c) (h1:c≤255) (hq0:0≤q) (hq:q≤8) :
  Calls Tryz.prog 104 #[.int .i64 q,.int .u8 c] w fun e w'=>e=.returned (.int .i64 (bZ q c))∧w=w':=by
 go_enter Tryz.func104,Tryz.ntmps104
 go_wp2_with (first|(go_at_call 46;refine (eW _ _ (by omega) (by omega)).mono ?_;rintro e w' ⟨rfl,rfl⟩)|(go_at_call 45;refine (gP _ _ (by omega) (by omega)).mono ?_;rintro e w' ⟨rfl,rfl⟩)|(go_at_call 128;refine (lW _ _ (by omega) (by omega)).mono ?_;rintro e w' ⟨rfl,rfl⟩)|(go_at_call 129;refine (Cl _ _ (by omega) (by omega)).mono ?_;rintro e w' ⟨rfl,rfl⟩))
 all_goals
  go_ret
  refine⟨kj ?_,rfl⟩
  simp_all [bZ]
theorem DC (q c:Int) (w:World) (h0:0≤c) (h1:c≤255) (hq0:9≤q) (hq:q≤17) :
  Calls Tryz.prog 105 #[.int .i64 q,.int .u8 c] w fun e w'=>e=.returned (.int .i64 (dL q c))∧w=w':=by
 go_enter Tryz.func105,Tryz.ntmps105
 go_wp2_with (first|(go_at_call 120;refine (nj _ _ (by omega) (by omega)).mono ?_;rintro e w' ⟨rfl,rfl⟩)|(go_at_call 45;refine (gP _ _ (by omega) (by omega)).mono ?_;rintro e w' ⟨rfl,rfl⟩)|(go_at_call 128;refine (lW _ _ (by omega) (by omega)).mono ?_;rintro e w' ⟨rfl,rfl⟩))
 all_goals
  go_ret
  refine⟨kj ?_,rfl⟩
  simp_all [dL]
def fM (s:ByteArray):Nat→Int→Nat→Int
 |0,q,_=>q
 |n+1,q,i=>fM s n (a9 q (bt s i)) (i+1)
theorem iM (s:ByteArray):∀ (m n:Nat) (q:Int) (i:Nat),fM s (m+n) q i=fM s n (fM s m q i) (i+m)
 |0,n,q,i=>by simp[fM]
 |m+1,n,q,i=>by
  rw[show m+1+n=(m+n)+1 by omega]
  simp only[fM]
  rw[iM s m n,show i+1+m=i+(m+1) by omega]
theorem iC (s:ByteArray) (n:Nat) (q:Int) (i:Nat):fM s (n+1) q i=a9 (fM s n q i) (bt s (i+n)):=by
 rw[iM s n 1];rfl
theorem uo (q c:Int):-1≤a9 q c∧a9 q c≤17:=by
 unfold a9 bZ dL
 repeat' split
 all_goals omega
def qD (s:ByteArray) (p:Int):Prop:=
 (p=-1∧fM s s.size 0 0=0)∨∃ k:Nat,p=k∧k≤s.size∧0≤fM s k 0 0∧(k<s.size→a9 (fM s k 0 0) (bt s k)=-1)∧(k=s.size→fM s k 0 0≠0)
theorem so (s:ByteArray) (w:World) (hs:s.size≤400) :
  Calls Tryz.prog 76 #[.string s] w fun e w'=>∃ p,e=.returned (.int .i64 p)∧qD s p∧w=w':=by
 go_enter Tryz.func76,Tryz.ntmps76
 go_wp2_with fail
 go_loop [3,4] (fun t i=>∃ k:Nat,k≤s.size∧i=.int .i64 k∧t=.int .i64 (fM s k 0 0)∧0≤fM s k 0 0) (fun _ i=>s.size - (intOf i).toNat)
 case atStart=>exact⟨0,Nat.zero_le _,rfl,rfl,by simp[fM]⟩
 case round=>
  obtain⟨k,hk,rfl,rfl,hq0⟩:=hrel
  by_cases hlt:k<s.size
  ·have HS:=af (iC s k 0 0)
   rw[Nat.zero_add] at HS
   have hq17:fM s k 0 0≤17:=by
    cases k with
    |zero=>simp[fM]
    |succ k=>rw[iC];exact (uo _ _).2
   have hbt:=bg hlt
   have hb:=bV s k
   have HB:=af hbt
   rw[hbt] at hb
   clear hbt
   have hnx:=uo (fM s k 0 0) (bt s k)
   have HF:Hid (a9 (fM s k 0 0) (bt s k)=if fM s k 0 0<9 then bZ (fM s k 0 0) (s[k].toNat:Int) else dL (fM s k 0 0) (s[k].toNat:Int)):=af (by rw[HB.out];rfl)
   obtain⟨q,hq⟩:∃ q,q=fM s k 0 0:=⟨_,rfl⟩
   obtain⟨nx,hnxe⟩:∃ nx,nx=a9 q (bt s k):=⟨_,rfl⟩
   rw[←hq] at HS HF hq0 hq17 hnx ⊢
   rw[←hnxe] at HS HF hnx
   have HNX:=af hnxe
   have HQ:=af hq
   clear hnxe hq
   by_cases h9:q<9
   ·have HC:Hid (bZ q (s[k].toNat:Int)=nx):=af (by rw[HF.out,if_pos h9])
    have HCC:=af (fun W=>Bx q (s[k].toNat:Int) W hb.1 hb.2 hq0 (by omega))
    rw[HC.out] at HCC
    by_cases hm:nx=-1
    ·subst hm
     go_wp2_with (go_at_call 104;refine (HCC.out _).mono ?_;rintro e w' ⟨rfl,rfl⟩)
     go_ret
     exact⟨_,rfl,.inr ⟨k,rfl,hk,by rw[←HQ.out];exact hq0,fun _=>by rw[←HQ.out,←HNX.out],fun h=>by omega⟩,rfl⟩
    ·have hm':(nx==-1)=false:=by simpa using hm
     go_wp2_with (go_at_call 104;refine (HCC.out _).mono ?_;rintro e w' ⟨rfl,rfl⟩)
     go_round
     case rel=>exact⟨k+1,by omega,by go_num,by rw[HS.out],by rw[HS.out];omega⟩
     case measure=>simp[intOf];omega
   ·have HC:Hid (dL q (s[k].toNat:Int)=nx):=af (by rw[HF.out,if_neg h9])
    have HCC:=af (fun W=>DC q (s[k].toNat:Int) W hb.1 hb.2 (by omega) hq17)
    rw[HC.out] at HCC
    by_cases hm:nx=-1
    ·subst hm
     go_wp2_with (go_at_call 105;refine (HCC.out _).mono ?_;rintro e w' ⟨rfl,rfl⟩)
     go_ret
     exact⟨_,rfl,.inr ⟨k,rfl,hk,by rw[←HQ.out];exact hq0,fun _=>by rw[←HQ.out,←HNX.out],fun h=>by omega⟩,rfl⟩
    ·have hm':(nx==-1)=false:=by simpa using hm
     go_wp2_with (go_at_call 105;refine (HCC.out _).mono ?_;rintro e w' ⟨rfl,rfl⟩)
     go_round
     case rel=>exact⟨k+1,by omega,by go_num,by rw[HS.out],by rw[HS.out];omega⟩
     case measure=>simp[intOf];omega
  ·have E:Hid (k=s.size):=af (by omega)
   by_cases h0:fM s k 0 0=0
   ·have H0:=af h0
    rw[h0]
    clear h0
    go_wp2
    go_ret
    exact⟨_,rfl,.inl ⟨rfl,by rw[←E.out];exact H0.out⟩,rfl⟩
   ·have h0':(fM s k 0 0 != 0)=true:=by simpa using h0
    go_wp2
    go_ret
    exact⟨_,rfl,.inr ⟨s.size,rfl,Nat.le_refl _,by rw[←E.out];exact hq0,fun h=>by omega,fun _=>by rw[←E.out];exact h0⟩,rfl⟩
def d8 (s:ByteArray) (a b:Int):Nat→Nat→Nat→List (Nat×Nat)
 |0,_,_=>[]
 |n+1,f,i=>if bt s i=a∨bt s i=b then (f,i)::d8 s a b n (i+1) (i+1) else d8 s a b n f (i+1)
def lI (s:ByteArray) (l:List (Nat×Nat)):List Value:=l.map fun p=>.string (s.extract p.1 p.2)
theorem sD (s:ByteArray) (l:List (Nat×Nat)) (f t:Nat):lI s (l++[(f,t)])=lI s l++[.string (s.extract f t)]:=by simp[lI]
theorem Tryz.info9:(Tryz.prog.info? 9).map (fun i=>(i.zero,i.size,i.bytes))=some (some (.string ByteArray.empty),1,16):=by kernel_rfl
theorem tw (s:ByteArray) (a b:Int) (w:World) (hs:s.size≤401) (_ha:0≤a∧a≤255) (_hb:0≤b∧b≤255) :
  Calls Tryz.prog 106 #[.string s,.int .u8 a,.int .u8 b] w fun e w'=>∃ v,e=.returned v∧w'.ownsRow w.heap.size 9 1 v (d8 s a b s.size 0 0).length (lI s (d8 s a b s.size 0 0))∧w.grownBy w' none:=by
 obtain⟨i0,hi0,hz0,hz1,hz2⟩:=info_parts Tryz.info9
 go_enter Tryz.func106,Tryz.ntmps106
 go_wp2_with fail
 go_loopw [7,8,9] (fun v t i wr=>∃ (L0:List (Nat×Nat)) (f k:Nat),k≤s.size∧f≤k∧L0.length≤k∧i=.int .i64 k∧t=.int .i64 f∧wr.ownsRow w.heap.size 9 1 v L0.length (lI s L0)∧w.grownBy wr none∧L0++d8 s a b (s.size - k) f k=d8 s a b s.size 0 0) (fun _ _ i _=>s.size - (intOf i).toNat)
 case atStart=>exact⟨[],0,0,Nat.zero_le _,Nat.le_refl _,Nat.zero_le _,rfl,rfl,World.ownsRow_nil _ _ _ _,ag _ _,rfl⟩
 case round=>
  obtain⟨L0,f,k,hk,hf,hL,rfl,rfl,hown,hg,hcut⟩:=hrel
  have HC:=af hcut
  clear hcut
  by_cases hlt:k<s.size
  ·have HB:=af (bg hlt)
   have hbd:=bV s k
   have hsz:=hg.size
   rw[HB.out] at hbd
   have e:s.size - k=(s.size - (k+1))+1:=by omega
   rw[e] at HC
   by_cases hab:(s[k].toNat:Int)=a∨(s[k].toNat:Int)=b
   ·have HC':Hid ((L0++[(f,k)])++d8 s a b (s.size - (k+1)) (k+1) (k+1)=d8 s a b s.size 0 0):=af (by
     have:=HC.out
     rw[d8,if_pos (by rw[HB.out];exact hab)] at this
     simpa using this)
    by_cases h1:(s[k].toNat:Int)=a
    ·have q1:((s[k].toNat:Int)==a)=true:=by simpa using h1
     clear hab h1
     go_wp2_with (first|(at_builtin;refine wpList_append_own _ rfl (.tmp 28) (.tmp 33) 98 rfl (w.heap.size) 9 i0 (.string ByteArray.empty) 1 16 Tryz.underlying98 hi0 hz0 hz1 hz2 rfl (by decide) _ _ _ rfl (hown.alloc _) _ 1 1 [.string (s.extract f k)] rfl rfl ?c1 ?c2 ?c3 ?c4 ?c5 ?_))
     case c1=>intro j u hj;exact bj hj
     case c2=>intro u hu;simp at hu;subst hu;rfl
     case c3=>unfold maxLen;omega
     case c4=>omega
     case c5=>simp;omega
     ·intro v' w3 hown3 hg3 _
      have hown3':w3.ownsRow w.heap.size 9 1 v' (L0++[(f,k)]).length (lI s (L0++[(f,k)])):=by rw[sD];simpa using hown3
      have hg3':w.grownBy w3 none:=aK (ab hg _) hg3 (fun g hg=>(hown.lt g hg).1)
      have hl3:(L0++[(f,k)]).length≤k+1:=by simp;omega
      clear hown3 hg3 hown hg
      go_wp2
      go_roundw
      case rel=>exact⟨L0++[(f,k)],k+1,k+1,by omega,Nat.le_refl _,hl3,by go_num,by go_num,hown3',hg3',HC'.out⟩
      case measure=>simp[intOf];omega
    ·have q1:((s[k].toNat:Int)==a)=false:=by simpa using h1
     have q2:((s[k].toNat:Int)==b)=true:=by simpa [h1] using hab
     clear hab h1
     go_wp2_with (first|(at_builtin;refine wpList_append_own _ rfl (.tmp 28) (.tmp 33) 98 rfl (w.heap.size) 9 i0 (.string ByteArray.empty) 1 16 Tryz.underlying98 hi0 hz0 hz1 hz2 rfl (by decide) _ _ _ rfl (hown.alloc _) _ 1 1 [.string (s.extract f k)] rfl rfl ?c1 ?c2 ?c3 ?c4 ?c5 ?_))
     case c1=>intro j u hj;exact bj hj
     case c2=>intro u hu;simp at hu;subst hu;rfl
     case c3=>unfold maxLen;omega
     case c4=>omega
     case c5=>simp;omega
     ·intro v' w3 hown3 hg3 _
      have hown3':w3.ownsRow w.heap.size 9 1 v' (L0++[(f,k)]).length (lI s (L0++[(f,k)])):=by rw[sD];simpa using hown3
      have hg3':w.grownBy w3 none:=aK (ab hg _) hg3 (fun g hg=>(hown.lt g hg).1)
      have hl3:(L0++[(f,k)]).length≤k+1:=by simp;omega
      clear hown3 hg3 hown hg
      go_wp2
      go_roundw
      case rel=>exact⟨L0++[(f,k)],k+1,k+1,by omega,Nat.le_refl _,hl3,by go_num,by go_num,hown3',hg3',HC'.out⟩
      case measure=>simp[intOf];omega
   ·have HC':Hid (L0++d8 s a b (s.size - (k+1)) f (k+1)=d8 s a b s.size 0 0):=af (by
     have:=HC.out
     rw[d8,if_neg (by rw[HB.out];exact hab)] at this
     exact this)
    have q1:((s[k].toNat:Int)==a)=false:=by simp;intro h;exact hab (.inl h)
    have q2:((s[k].toNat:Int)==b)=false:=by simp;intro h;exact hab (.inr h)
    clear hab
    go_wp2
    go_roundw
    case rel=>exact⟨L0,f,k+1,by omega,by omega,by omega,by go_num,rfl,hown,hg,HC'.out⟩
    case measure=>simp[intOf];omega
  ·have e:s.size - k=0:=by omega
   rw[e] at HC
   have HC':Hid (L0=d8 s a b s.size 0 0):=af (by have:=HC.out;simpa [d8] using this)
   go_wp2
   go_ret
   exact⟨_,rfl,by rw[←HC'.out];exact hown,hg⟩
end Go.Proofs.YthlhbjnkohinmaaGreat
