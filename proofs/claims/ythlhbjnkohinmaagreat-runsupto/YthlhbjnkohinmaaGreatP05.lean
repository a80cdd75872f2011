import Derived.Test.YthlhbjnkohinmaaGreatP04
namespace Go.Proofs.YthlhbjnkohinmaaGreat
set_option maxRecDepth 100000
set_option maxHeartbeats 8000000
open Go.RowKit
def im (s:ByteArray)(p:Nat)(bs:Nat→Bool):Bool:=e9 bs (dg s p).a1 (dg s p).a2||e9 bs (dg s p).b1 (dg s p).b2
def uP (s:ByteArray)(p:Nat)(bs:Nat→Bool):Nat→Bool:=ja (ja bs (dg s p).a1 (dg s p).a2) (dg s p).b1 (dg s p).b2
def jr (s:ByteArray)(p:Nat)(bs:Nat→Bool):Bool:=e9 bs (d8 s p).a1 (d8 s p).a2||e9 bs (d8 s p).b1 (d8 s p).b2
def ce (s:ByteArray):List Nat→(Nat→Bool)→Option (Nat→Bool)
 |[],bs=>some bs
 |p::L,bs=>if (dg s p).k=1 then ce s L (uP s p bs) else if im s p bs then none else ce s L bs
def ix (s:ByteArray)(K:List Nat)(bs:Nat→Bool):Bool:=K.any fun p=>jr s p bs
def mr (s:ByteArray)(L K:List Nat):Bool:=match ce s L (fun _=>false) with|none=>true|some bs=>ix s K bs
theorem eQ (s:ByteArray):∀ (A B:List Nat) (bs:Nat→Bool),ce s (A++B) bs=(ce s A bs).bind (ce s B)
 |[],B,bs=>rfl
 |p::A,B,bs=>by
  simp only[List.cons_append,ce]
  split
  ·exact eQ s A B _
  ·split
   ·rfl
   ·exact eQ s A B _
theorem jp {s:ByteArray}{L:List Nat}{k:Nat}{b0 bs:Nat→Bool}(hk:k<L.length)(h:ce s (L.take k) b0=some bs):
  ce s (L.take (k+1)) b0=if (dg s L[k]).k=1 then some (uP s L[k] bs) else if im s L[k] bs then none else some bs:=by
 rw[List.take_succ_eq_append_getElem hk,eQ,h]
 simp only[Option.bind_some,ce]
theorem lS {s:ByteArray}{L:List Nat}{k:Nat}{b0:Nat→Bool}(h:ce s (L.take k) b0=none):ce s L b0=none:=by
 rw[←List.take_append_drop k L,eQ,h];rfl
theorem j9 (c:Int)(h:dx c=2):0≤dD c∧dD c<4:=by
 unfold dx at h;unfold dD
 split at h
 ·omega
 ·split at h
  ·rename_i h1 h2
   have:119≤c∧c≤122:=by simpa [ew] using h2
   simp only[h1,h2]
   simp
   omega
  ·omega
theorem F7 (s:ByteArray)(i:Nat):((dg s i).a1=2→0≤(dg s i).a2∧(dg s i).a2<4)∧((dg s i).b1=2→0≤(dg s i).b2∧(dg s i).b2<4):=by
 unfold dg
 split
 ·exact⟨j9 _,j9 _⟩
 ·split
  ·exact⟨j9 _,j9 _⟩
  ·exact⟨j9 _,j9 _⟩
theorem F1 (s:ByteArray)(i:Nat):((d8 s i).a1=2→0≤(d8 s i).a2∧(d8 s i).a2<4)∧((d8 s i).b1=2→0≤(d8 s i).b2∧(d8 s i).b2<4):=by
 unfold d8
 split
 ·exact⟨j9 _,j9 _⟩
 ·split
  ·exact⟨j9 _,fun h=>by simp[tY] at h⟩
  ·exact⟨fun h=>by simp at h,fun h=>by simp at h⟩
theorem FJ (w:World):Bd (w.alloc (.cells #[.bool false,.bool false,.bool false,.bool false] 231)) w.heap.size (fun _=>false):=heap_alloc_new w _
theorem aK {w W w3:World}{r row:Option Nat}(h:w.grownBy W r)(k:W.grownBy w3 row)(hrow:∀ g,row=some g→w.heap.size≤g):w.grownBy w3 r:=
 ⟨k.os.trans h.os,k.tape.trans h.tape,k.output.trans h.output,Nat.le_trans h.size k.size,fun i hi hb=>(k.block i (Nat.lt_of_lt_of_le hi h.size) (fun e=>by have:=hrow i e.symm;omega)).trans (h.block i hi hb)⟩
theorem t7 (s:ByteArray)(L K:List Nat)(x:Int)(a1 a2:Option Addr)(m1 c1 m2 c2 B:Nat)(w:World)(hL:L.length≤400)(hK:K.length≤400)
  (h1:w.ownsRow B 206 7 (.slice a1 m1 c1) L.length (du s L)) (h2:w.ownsRow B 219 8 (.slice a2 m2 c2) K.length (dU s K)) :
  Calls Tryz.prog 103 #[.agg #[.int .i64 x,.slice a1 m1 c1,.slice a2 m2 c2]] w fun e w'=>e=.returned (.bool (mr s L K))∧w.grownBy w' none:=by
 have e1:=ar h1
 have e2:=ar h2
 subst e1 e2
 have hfun:∃ q,q=mr s L K:=⟨_,rfl⟩
 obtain⟨q,hq⟩:=hfun
 have HQ:=af hq
 rw[←hq]
 clear hq
 go_enter Tryz.func103,Tryz.ntmps103
 go_wp2_with fail
 go_loopw [11] (fun t wr=>∃ (k:Nat) (bs:Nat→Bool),k≤L.length∧t=.int .i64 k∧w.grownBy wr none∧Bd wr (w.heap.size+1) bs∧wr.cell? ⟨w.heap.size,2,none⟩=some (.slice a2 K.length c2)∧w.heap.size+1<wr.heap.size∧ce s (L.take k) (fun _=>false)=some bs) (fun t _=>L.length - (intOf t).toNat)
 case atStart=>
  refine⟨0,fun _=>false,Nat.zero_le _,rfl,ab (ab (ag _ _) _) _,?_,by simp[go_sem],by simp,rfl⟩
  have h:=FJ (w.alloc (.cells #[.int .i64 x,.slice a1 L.length c1,.slice a2 K.length c2] 169))
  simpa using h
 case round=>
  obtain⟨k,bs,hk,rfl,hg,hbd,hbx,hsz,hbo⟩:=hrel
  have HBO:=af hbo
  clear hbo
  have hz1:w.heap.size+1≠wr.heap.size:=by omega
  have hz2:wr.heap.size≠w.heap.size+1:=by omega
  by_cases hlt:k<L.length
  ·obtain⟨g,rfl,hgl,hgb,d0,d1,d2,d3,d4,d5,d6⟩:=rB h1 hg (fun g hg=>by cases hg) hlt
   obtain⟨hv1,hv2⟩:=F7 s L[k]
   have HT:=af (jp hlt HBO.out)
   by_cases hk1:(dg s L[k]).k=1
   ·have HA1:=af (fun (W:World) (hW:Bd W (w.heap.size+1) bs)=>yz bs (dg s L[k]).a1 (dg s L[k]).a2 (w.heap.size+1) W hW hv1)
    have HA2:=af (fun (W:World) (hW:Bd W (w.heap.size+1) (ja bs (dg s L[k]).a1 (dg s L[k]).a2))=>yz (ja bs (dg s L[k]).a1 (dg s L[k]).a2) (dg s L[k]).b1 (dg s L[k]).b2 (w.heap.size+1) W hW hv2)
    rw[if_pos hk1] at HT
    clear hv1 hv2
    go_wp2_with fail
    go_at_call 126
    refine (HA1.out _ (hbd.alloc _)).mono ?_
    rintro e w2 ⟨rfl,hb2,hg2⟩
    obtain⟨hc2,hf2⟩:=cN hg2
    go_wp2_with fail
    go_at_call 126
    refine (HA2.out _ hb2).mono ?_
    rintro e w3 ⟨rfl,hb3,hg3⟩
    have hg':w.grownBy w3 none:=aK (aK (ab hg _) hg2 (fun g hg=>by cases hg;omega)) hg3 (fun g hg=>by cases hg;omega)
    have hbx':w3.cell? ⟨w.heap.size,2,none⟩=some (.slice a2 K.length c2):=hg3.cell (hg2.cell (a:=⟨w.heap.size,2,none⟩) (by rw[World.cell?_alloc_past _ _ _ (by omega)];exact hbx) (by simp)) (by simp)
    have hsz':w.heap.size+1<w3.heap.size:=by have:=hg2.size;have:=hg3.size;simp at *;omega
    clear hg2 hg3 hc2 hf2 hb2 hbd hbx hg
    go_wp2
    go_roundw
    case rel=>exact⟨k+1,_,by omega,by go_num,hg',hb3,hbx',hsz',HT.out⟩
    case measure=>simp[intOf];omega
   ·have hk2:((dg s L[k]).k==1)=false:=by simpa using hk1
    rw[if_neg hk1] at HT
    have HLK:=af (fun (W:World) (hW:Bd W (w.heap.size+1) bs)=>rV bs (dg s L[k]).a1 (dg s L[k]).a2 (dg s L[k]).b1 (dg s L[k]).b2 (w.heap.size+1) W hW hv1 hv2)
    clear hv1 hv2
    change Hid (∀ (W:World) (hW:Bd W (w.heap.size+1) bs),Calls Tryz.prog 127 _ W fun e w'=>e=.returned (.bool (im s L[k] bs))∧W.grownBy w' none) at HLK
    by_cases hlk:im s L[k] bs=true
    ·rw[if_pos hlk] at HT
     rw[hlk] at HLK
     have HU:Hid (q=true):=af (by rw[HQ.out];unfold mr;rw[lS HT.out])
     go_wp2_with fail
     go_at_call 127
     refine (HLK.out _ (hbd.alloc _)).mono ?_
     rintro e w2 ⟨rfl,hg2⟩
     go_wp2
     go_ret
     exact⟨c7 HU.out.symm,ae (ab hg _) hg2⟩
    ·rw[if_neg hlk] at HT
     have hlk':im s L[k] bs=false:=by simpa using hlk
     rw[hlk'] at HLK
     go_wp2_with fail
     go_at_call 127
     refine (HLK.out _ (hbd.alloc _)).mono ?_
     rintro e w2 ⟨rfl,hg2⟩
     have hb2:=(hbd.alloc _).kept hg2 (by simp)
     have hbx':w2.cell? ⟨w.heap.size,2,none⟩=some (.slice a2 K.length c2):=hg2.cell (a:=⟨w.heap.size,2,none⟩) (by rw[World.cell?_alloc_past _ _ _ (by omega)];exact hbx) (by simp)
     have hsz':w.heap.size+1<w2.heap.size:=by have:=hg2.size;simp at *;omega
     have hg':w.grownBy w2 none:=ae (ab hg _) hg2
     clear hg2 hbd hbx hg
     go_wp2
     go_roundw
     case rel=>exact⟨k+1,_,by omega,by go_num,hg',hb2,hbx',hsz',HT.out⟩
     case measure=>simp[intOf];omega
  ·have HBO':Hid (ce s L (fun _=>false)=some bs):=af (by have:=HBO.out;rwa [List.take_of_length_le (by omega)] at this)
   have HU:Hid (q=ix s K bs):=af (by rw[HQ.out];unfold mr;rw[HBO'.out])
   clear HBO
   go_wp2_with fail
   go_loopw [33] (fun t wr=>∃ (k:Nat),k≤K.length∧t=.int .i64 k∧w.grownBy wr none∧Bd wr (w.heap.size+1) bs∧ix s (K.take k) bs=false) (fun t _=>K.length - (intOf t).toNat)
   case atStart=>exact⟨0,Nat.zero_le _,rfl,hg,hbd,rfl⟩
   case round=>
    clear hg hbd hbx hsz hz1 hz2
    obtain⟨k',hk',rfl,hg,hbd,hla⟩:=hrel
    have HLA:=af hla
    clear hla
    by_cases hlt':k'<K.length
    ·obtain⟨g,rfl,hgl,hgb,d0,d1,d2,d3,d4,d5,d6,d7⟩:=Bu h2 hg (fun g hg=>by cases hg) hlt'
     obtain⟨hv1,hv2⟩:=F1 s K[k']
     have HLK:=af (fun (W:World) (hW:Bd W (w.heap.size+1) bs)=>rV bs (d8 s K[k']).a1 (d8 s K[k']).a2 (d8 s K[k']).b1 (d8 s K[k']).b2 (w.heap.size+1) W hW hv1 hv2)
     clear hv1 hv2
     change Hid (∀ (W:World) (hW:Bd W (w.heap.size+1) bs),Calls Tryz.prog 127 _ W fun e w'=>e=.returned (.bool (jr s K[k'] bs))∧W.grownBy w' none) at HLK
     have HT:Hid (ix s (K.take (k'+1)) bs=jr s K[k'] bs):=af (by
      have:=HLA.out
      unfold ix at this ⊢
      rw[List.take_succ_eq_append_getElem hlt',List.any_append,this];simp)
     by_cases hlk:jr s K[k'] bs=true
     ·rw[hlk] at HLK
      have HU':Hid (q=true):=af (by
       rw[HU.out]
       have:=HT.out
       rw[hlk] at this
       unfold ix at this ⊢
       rw[←List.take_append_drop (k'+1) K,List.any_append,this];simp)
      go_wp2_with fail
      go_at_call 127
      refine (HLK.out _ (hbd.alloc _)).mono ?_
      rintro e w2 ⟨rfl,hg2⟩
      go_wp2
      go_ret
      exact⟨c7 HU'.out.symm,ae (ab hg _) hg2⟩
     ·have hlk':jr s K[k'] bs=false:=by simpa using hlk
      rw[hlk'] at HLK HT
      go_wp2_with fail
      go_at_call 127
      refine (HLK.out _ (hbd.alloc _)).mono ?_
      rintro e w2 ⟨rfl,hg2⟩
      have hb2:=(hbd.alloc _).kept hg2 (by simp)
      have hg':w.grownBy w2 none:=ae (ab hg _) hg2
      clear hg2 hbd hg
      go_wp2
      go_roundw
      case rel=>exact⟨k'+1,by omega,by go_num,hg',hb2,HT.out⟩
      case measure=>simp[intOf];omega
    ·have HU':Hid (q=false):=af (by rw[HU.out];have:=HLA.out;rwa [List.take_of_length_le (by omega)] at this)
     go_wp2
     go_ret
     exact⟨c7 HU'.out.symm,hg⟩
def jT (s:ByteArray)(R:List ax)(k:Nat):Prop:=∃ h:k<R.length,mr s R[k].2.1 R[k].2.2=true
theorem nM (s:ByteArray)(R:List ax)(B:Nat)(v:Value)(w:World)(hR:R.length≤400)(hlen:∀ k (h:k<R.length),R[k].2.1.length≤400∧R[k].2.2.length≤400)(h:bQ w B s v R):
  Calls Tryz.prog 75 #[v] w fun e w'=>∃ o,bH (jT s R) R.length o∧e=.returned (si o)∧w.grownBy w' none:=by
 obtain⟨xs,hown,hpar⟩:=h
 obtain⟨a,m,c,rfl⟩:=an hown
 have e1:=ar hown
 subst e1
 have HLEN:=af hlen
 clear hlen
 go_enter Tryz.func75,Tryz.ntmps75
 go_wp2_with fail
 go_loopw [8] (fun t wr=>∃ k:Nat,k≤R.length∧t=.int .i64 k∧w.grownBy wr none∧∀ j,j<k→¬jT s R j) (fun t _=>R.length - (intOf t).toNat)
 case atStart=>exact⟨0,Nat.zero_le _,rfl,ag _ _,fun j hj=>by omega⟩
 case round=>
  obtain⟨k,hk,rfl,hg,hno⟩:=hrel
  have HN:=af hno
  clear hno
  by_cases hlt:k<R.length
  ·obtain⟨a1,m1,c1,a2,m2,c2,x0,x1,x2,o1,o2⟩:=jS R xs hpar k hlt
   obtain⟨g,rfl,_,hgb,hgl,hcell⟩:=aC hown (by omega)
   have d0:=hg.cell (hcell _ _ x0) (by simp)
   have d1:=hg.cell (hcell _ _ x1) (by simp)
   have d2:=hg.cell (hcell _ _ x2) (by simp)
   have o1':=aq o1 hg (fun g hg=>by cases hg)
   have o2':=aq o2 hg (fun g hg=>by cases hg)
   clear hcell x0 x1 x2 o1 o2
   have HOV:=af (t7 s R[k].2.1 R[k].2.2 (bt s R[k].1 - 48) a1 a2 m1 c1 m2 c2 B _ (HLEN.out k hlt).1 (HLEN.out k hlt).2 (o1'.alloc (.cells #[.int .i64 (bt s R[k].1 - 48),.slice a1 m1 c1,.slice a2 m2 c2] 169)) (o2'.alloc _))
   clear o1' o2'
   by_cases hb:mr s R[k].2.1 R[k].2.2=true
   ·rw[hb] at HOV
    have HB:=af hb
    clear hb
    go_wp2_with (go_at_call 103;refine HOV.out.mono ?_;rintro e w2 ⟨rfl,hg2⟩)
    go_ret2
    exact⟨some k,⟨hlt,⟨hlt,HB.out⟩,HN.out⟩,rfl,ae (ab hg _) hg2⟩
   ·have hb':mr s R[k].2.1 R[k].2.2=false:=by simpa using hb
    rw[hb'] at HOV
    have HB:=af hb
    clear hb hb'
    go_wp2_with (go_at_call 103;refine HOV.out.mono ?_;rintro e w2 ⟨rfl,hg2⟩)
    go_roundw
    case rel=>
     refine⟨k+1,by omega,by go_num,ae (ab hg _) hg2,?_⟩
     intro j hj
     by_cases e:j=k
     ·subst e;rintro⟨_,h⟩;exact HB.out h
     ·exact HN.out j (by omega)
    case measure=>simp[intOf];omega
  ·go_wp2
   go_ret2
   refine⟨none,?_,rfl,hg⟩
   intro j hj
   exact HN.out j (by omega)
theorem Fw {s:ByteArray}{i:Nat}{L K:List Nat}{j:Nat}{ok:Bool}(h:q6 s i L K j ok):i≤j:=by
 rcases h with ⟨_,_,_,e,_⟩|⟨_,_,_,_,e,_⟩|⟨_,_,h1,_,_⟩|⟨_,_,_,h1,h2⟩
 ·omega
 ·omega
 ·have:=sV h1;omega
 ·have:=sV h1;have:=yk h2;omega
theorem oY {s:ByteArray}{i:Nat}{R:List ax}{j:Nat}{ok:Bool}(h:kN s i R j ok):i+R.length≤j:=
 kN.ind (M:=fun i R j _=>i+R.length≤j) (fun _ _=>by simp) (fun _ _ _ _ _ h=>by have:=Fw h;simpa using this) (fun _ _ _ _ _ _ _ _ h _ ih=>by have:=Cu h;simp;omega) h
theorem mf {s:ByteArray}{R:List ax}(h:bH (iP s R) R.length none)(k:Nat)(hk:k<R.length):R[k].2.1.length≤5∧R[k].2.2.length≤4∧k<9:=by
 have h0:=h k hk
 have h1:¬(9≤k∨ip s R[k].2.1 R[k].2.2=true):=fun hx=>h0 ⟨hk,hx⟩
 simp only[ip,not_or,Bool.or_eq_true,decide_eq_true_eq] at h1
 omega
def cF (s:ByteArray)(x p:Int)(o:Option (List ax)):Prop:=
 (400<s.size∧x=1∧p=0∧o=none)∨
 (∃ (R:List ax) (j:Nat),s.size≤400∧kN s 0 R j false∧x=2∧p=j∧o=none)∨
 (∃ (R:List ax) (j m:Nat),s.size≤400∧kN s 0 R j true∧bH (iP s R) R.length (some m)∧x=3∧p=m∧o=none)∨
 (∃ (R:List ax) (j m:Nat),s.size≤400∧kN s 0 R j true∧bH (iP s R) R.length none∧bH (jT s R) R.length (some m)∧x=4∧p=m∧o=none)∨
 (∃ (R:List ax) (j:Nat),s.size≤400∧kN s 0 R j true∧bH (iP s R) R.length none∧bH (jT s R) R.length none∧x=0∧p=0∧o=some R)
theorem cF.long {s:ByteArray}(h:400<s.size):cF s 1 0 none:=.inl ⟨h,rfl,rfl,rfl⟩
theorem cF.form {s:ByteArray}{R:List ax}{j:Nat}(h:s.size≤400)(h1:kN s 0 R j false):cF s 2 j none:=.inr (.inl ⟨R,j,h,h1,rfl,rfl,rfl⟩)
theorem cF.many {s:ByteArray}{R:List ax}{j m:Nat}(h:s.size≤400)(h1:kN s 0 R j true)(h2:bH (iP s R) R.length (some m)):cF s 3 m none:=.inr (.inr (.inl ⟨R,j,m,h,h1,h2,rfl,rfl,rfl⟩))
theorem cF.unbound {s:ByteArray}{R:List ax}{j m:Nat}(h:s.size≤400)(h1:kN s 0 R j true)(h2:bH (iP s R) R.length none)(h3:bH (jT s R) R.length (some m)):cF s 4 m none:=.inr (.inr (.inr (.inl ⟨R,j,m,h,h1,h2,h3,rfl,rfl,rfl⟩)))
theorem cF.ok {s:ByteArray}{R:List ax}{j:Nat}(h:s.size≤400)(h1:kN s 0 R j true)(h2:bH (iP s R) R.length none)(h3:bH (jT s R) R.length none):cF s 0 0 (some R):=.inr (.inr (.inr (.inr ⟨R,j,h,h1,h2,h3,rfl,rfl,rfl⟩)))
def Df (w:World)(s:ByteArray)(e:Ending)(w':World):Prop:=
 ∃ v x p o,e=.returned (.tuple #[v,.int .i64 x,.int .i64 p])∧cF s x p o∧(∀ R,o=some R→bQ w' w.heap.size s v R)∧(o=none→v=.slice none 0 0)∧w.grownBy w' none
theorem js {w w':World}{B:Nat}{s:ByteArray}{v:Value}{R:List ax}(h:bQ w B s v R)(hg:w.grownBy w' none):bQ w' B s v R:=by
 obtain⟨xs,h1,h2⟩:=h
 exact⟨xs,aq h1 hg (fun g hg=>by cases hg),fB hg (fun g hg=>by cases hg) R xs h2⟩
theorem rt {w:World}{B B':Nat}{s:ByteArray}{v:Value}{R:List ax}(hb:B'≤B)(h:bQ w B s v R):bQ w B' s v R:=by
 obtain⟨xs,h1,h2⟩:=h
 refine⟨xs,bO h1 hb,?_⟩
 clear h1
 induction R generalizing xs with
 |nil=>exact h2
 |cons r R ih=>
  obtain⟨b1,n1,d1,b2,n2,d2,ys,e,k1,k2,k3⟩:=h2
  exact⟨b1,n1,d1,b2,n2,d2,ys,e,bO k1 hb,bO k2 hb,ih ys k3⟩
theorem CC (s:ByteArray)(w:World)(hs:s.size≤maxLen):
  Calls Tryz.prog 38 #[.string s] w (Df w s):=by
 unfold maxLen at hs
 by_cases h400:400<s.size
 ·go_enter Tryz.func38,Tryz.ntmps38
  go_wp2
  go_ret3
  exact⟨_,_,_,none,rfl,.long h400,(fun R h=>by cases h),(fun _=>rfl),ag _ _⟩
 ·have h4:s.size≤400:=by omega
  have hr:Rd (w.alloc (.cells #[.string s,.int .i64 0] 147)) w.heap.size s 0:=heap_alloc_new w _
  go_enter Tryz.func38,Tryz.ntmps38
  go_wp2_with fail
  go_at_call 73
  refine (Ag s w.heap.size 0 _ ⟨h4,by omega⟩ hr).mono ?_
  rintro e w1 ⟨R,j,ok,v,rfl,hrls,hown,hj,hr1,hg1⟩
  have hg1':w.grownBy w1 none:=aK (ab (ag _ _) _) hg1 (fun g hg=>by cases hg;exact Nat.le_refl _)
  have c1:=hr1.c1
  have HR:=af hrls
  have hlen:=oY hrls
  clear hrls hr hr1
  cases ok
  ·go_wp2_with fail
   go_quiet ((fail))
   go_wp2
   go_ret3
   exact⟨_,_,_,none,rfl,.form h4 HR.out,(fun R h=>by cases h),(fun _=>rfl),al hg1' _⟩
  ·replace hown:=hown rfl
   have hown':=rt (B':=w.heap.size) (by simp) hown
   go_wp2_with fail
   go_at_call 74
   refine (ns s R w.heap.size v _ (by omega) hown').mono ?_
   rintro e w2 ⟨o,ho,rfl,hg2⟩
   have hown2:=js hown' hg2
   have HO:=af ho
   cases o with
   |some m=>
    unfold si
    go_wp2
    go_ret3
    exact⟨_,_,_,none,rfl,.many h4 HR.out HO.out,(fun R h=>by cases h),(fun _=>rfl),ae hg1' hg2⟩
   |none=>
    have HL:=af (mf ho)
    clear ho
    unfold si
    go_wp2_with fail
    go_at_call 75
    refine (nM s R w.heap.size v _ (by omega) (fun k hk=>by have:=HL.out k hk;omega) hown2).mono ?_
    rintro e w3 ⟨o,ho,rfl,hg3⟩
    have hown3:=js hown2 hg3
    have HO2:=af ho
    clear ho
    cases o with
    |some m=>
     unfold si
     go_wp2
     go_ret3
     exact⟨_,_,_,none,rfl,.unbound h4 HR.out HO.out HO2.out,(fun R h=>by cases h),(fun _=>rfl),ae (ae hg1' hg2) hg3⟩
    |none=>
     unfold si
     go_wp2
     go_ret3
     exact⟨_,_,_,some R,rfl,.ok h4 HR.out HO.out HO2.out,(fun R' h=>by cases h;exact hown3),(fun h=>by cases h),ae (ae hg1' hg2) hg3⟩
theorem cF.zero {s:ByteArray}{x p:Int}{o:Option (List ax)}(h:cF s x p o):(x=0∧p=0∧∃ R,o=some R)∨(1≤x∧x≤4∧o=none):=by
 rcases h with ⟨_,rfl,rfl,rfl⟩|⟨R,j,_,_,rfl,rfl,rfl⟩|⟨R,j,m,_,_,_,rfl,rfl,rfl⟩|⟨R,j,m,_,_,_,_,rfl,rfl,rfl⟩|⟨R,j,_,_,_,_,rfl,rfl,rfl⟩
 ·right;exact⟨by omega,by omega,rfl⟩
 ·right;exact⟨by omega,by omega,rfl⟩
 ·right;exact⟨by omega,by omega,rfl⟩
 ·right;exact⟨by omega,by omega,rfl⟩
 ·left;exact⟨rfl,rfl,_,rfl⟩
def EN (w:World)(s:ByteArray)(room:Int)(e:Ending)(w':World):Prop:=
 ∃ x p o,cF s x p o∧w.grownBy w' none∧
   ((1≤x∧x≤4∧e=.returned (.tuple #[.pointer none,.int .i64 x,.int .i64 p]))∨
    (x=0∧(room<1∨999<room)∧e=.returned (.tuple #[.pointer none,.int .i64 5,.int .i64 0]))∨
    (x=0∧1≤room∧room≤999∧∃ g R v,o=some R∧e=.returned (.tuple #[.pointer (some ⟨g,0,none⟩),.int .i64 0,.int .i64 0])∧w.heap.size≤g∧w'.heap[g]?=some (.cells ((Tryz.zeroCells91.setIfInBounds 0 v).setIfInBounds 1 (.int .i64 room)) 91 (0,0))∧bQ w' w.heap.size s v R))
theorem D7 (s:ByteArray)(room:Int)(w:World)(hs:s.size≤maxLen):
  Calls Tryz.prog 16 #[.string s,.int .i64 room] w (EN w s room):=by
 go_enter Tryz.func16,Tryz.ntmps16
 go_wp2_with fail
 go_at_call 38
 refine (CC s w hs).mono ?_
 rintro e w1 ⟨v,x,p,o,rfl,ha,ho,hn,hg⟩
 have HA:=af ha
 rcases ha.zero with ⟨rfl,rfl,R,rfl⟩|⟨hx1,hx2,rfl⟩
 ·have HO:=af (ho R rfl)
  obtain⟨xs,hown,hpar⟩:=ho R rfl
  obtain⟨a,m,c,rfl⟩:=an hown
  clear hpar hown ho ha hn
  by_cases h1:room<1
  ·go_wp2
   go_ret3
   exact⟨_,_,_,HA.out,hg,.inr (.inl ⟨rfl,.inl h1,rfl⟩)⟩
  ·by_cases h2:999<room
   ·go_wp2
    go_ret3
    exact⟨_,_,_,HA.out,hg,.inr (.inl ⟨rfl,.inr h2,rfl⟩)⟩
   ·have hsz:=hg.size
    go_wp2
    go_ret3
    exact⟨_,_,_,HA.out,ab hg _,.inr (.inr ⟨rfl,by omega,by omega,w1.heap.size,R,_,rfl,rfl,hsz,heap_alloc_new w1 _,js HO.out (World.grownBy_alloc w1 _ none)⟩)⟩
 ·have hv:=hn rfl
  subst hv
  have hx0:(x != 0)=true:=by simp;omega
  clear ho ha hn
  go_wp2
  go_ret3
  exact⟨_,_,_,HA.out,hg,.inl ⟨hx1,hx2,rfl⟩⟩
theorem aS {w:World}{base:Nat}{e t:TypeId}{size:Nat}{v:Value}{n:Nat}{xs:List Value}{g:Nat}{cs:Array Value}(h:w.ownsRow base e size v n xs)(hk:w.heap[g]?=some (.cells cs t (0,0)))(ht:e≠t):v.ownBlock≠some g:=by
 intro hx
 obtain⟨cs',hc⟩:=fA h g hx
 rw[hc] at hk;simp at hk;exact ht hk.2
theorem dp {w w':World}{base:Nat}{e:TypeId}{size:Nat}{v:Value}{n:Nat}{xs:List Value}(h:w.ownsRow base e size v n xs)(hw:w'.heap=w.heap):w'.ownsRow base e size v n xs:=by
 unfold World.ownsRow at h ⊢
 rw[hw];exact h
theorem iD {w w':World}(h:w'.heap=w.heap)(a:Addr):w'.cell? a=w.cell? a:=by simp[World.cell?,h]
theorem bh {w:World}{xs:List Value}{t:TypeId}{j:Nat}{u:Value}(h:xs[j]?=some u):(w.alloc (.cells xs.toArray t)).cell? ((⟨w.heap.size,0,none⟩:Addr).add j)=some u:=by
 have hadd:(⟨w.heap.size,0,none⟩:Addr).add j=⟨w.heap.size,j,none⟩:=by unfold Addr.add;split <;> simp_all
 rw[hadd,World.cell?_alloc_at _ _ _ _ rfl]
 simpa using h
end Go.Proofs.YthlhbjnkohinmaaGreat
