import Derived.Test.YthlhbjnkohinmaaGreatP04
namespace Go.Proofs.YthlhbjnkohinmaaGreat
set_option maxRecDepth 100000
set_option maxHeartbeats 8000000
open Go.RowKit
def ig (s:ByteArray)(p:Nat)(bs:Nat→Bool):Bool:=e9 bs (dg s p).a1 (dg s p).a2||e9 bs (dg s p).b1 (dg s p).b2
def uw (s:ByteArray)(p:Nat)(bs:Nat→Bool):Nat→Bool:=je (je bs (dg s p).a1 (dg s p).a2) (dg s p).b1 (dg s p).b2
def jx (s:ByteArray)(p:Nat)(bs:Nat→Bool):Bool:=e9 bs (dZ s p).a1 (dZ s p).a2||e9 bs (dZ s p).b1 (dZ s p).b2
def b9 (s:ByteArray):List Nat→(Nat→Bool)→Option (Nat→Bool)
 |[],bs=>some bs
 |p::L,bs=>if (dg s p).k=1 then b9 s L (uw s p bs) else if ig s p bs then none else b9 s L bs
def iB (s:ByteArray)(K:List Nat)(bs:Nat→Bool):Bool:=K.any fun p=>jx s p bs
def mw (s:ByteArray)(L K:List Nat):Bool:=match b9 s L (fun _=>false) with|none=>true|some bs=>iB s K bs
theorem eR (s:ByteArray):∀ (A B:List Nat) (bs:Nat→Bool),b9 s (A++B) bs=(b9 s A bs).bind (b9 s B)
 |[],B,bs=>rfl
 |p::A,B,bs=>by
  simp only[List.cons_append,b9]
  split
  ·exact eR s A B _
  ·split
   ·rfl
   ·exact eR s A B _
theorem jq {s:ByteArray}{L:List Nat}{k:Nat}{b0 bs:Nat→Bool}(hk:k<L.length)(h:b9 s (L.take k) b0=some bs):
  b9 s (L.take (k+1)) b0=if (dg s L[k]).k=1 then some (uw s L[k] bs) else if ig s L[k] bs then none else some bs:=by
 rw[List.take_succ_eq_append_getElem hk,eR,h]
 simp only[Option.bind_some,b9]
theorem lM {s:ByteArray}{L:List Nat}{k:Nat}{b0:Nat→Bool}(h:b9 s (L.take k) b0=none):b9 s L b0=none:=by
 rw[←List.take_append_drop k L,eR,h];rfl
theorem kj (c:Int)(h:dw c=2):0≤dC c∧dC c<4:=by
 unfold dw at h;unfold dC
 split at h
 ·omega
 ·split at h
  ·rename_i h1 h2
   have:119≤c∧c≤122:=by simpa [ex] using h2
   simp only[h1,h2]
   simp
   omega
  ·omega
theorem FZ (s:ByteArray)(i:Nat):((dg s i).a1=2→0≤(dg s i).a2∧(dg s i).a2<4)∧((dg s i).b1=2→0≤(dg s i).b2∧(dg s i).b2<4):=by
 unfold dg
 split
 ·exact⟨kj _,kj _⟩
 ·split
  ·exact⟨kj _,kj _⟩
  ·exact⟨kj _,kj _⟩
theorem F0 (s:ByteArray)(i:Nat):((dZ s i).a1=2→0≤(dZ s i).a2∧(dZ s i).a2<4)∧((dZ s i).b1=2→0≤(dZ s i).b2∧(dZ s i).b2<4):=by
 unfold dZ
 split
 ·exact⟨kj _,kj _⟩
 ·split
  ·exact⟨kj _,fun h=>by simp[vZ] at h⟩
  ·exact⟨fun h=>by simp at h,fun h=>by simp at h⟩
theorem FC (w:World):Bd (w.alloc (.cells #[.bool false,.bool false,.bool false,.bool false] 231)) w.heap.size (fun _=>false):=heap_alloc_new w _
theorem aL {w W w3:World}{r row:Option Nat}(h:w.grownBy W r)(k:W.grownBy w3 row)(hrow:∀ g,row=some g→w.heap.size≤g):w.grownBy w3 r:=
 ⟨k.os.trans h.os,k.tape.trans h.tape,k.output.trans h.output,Nat.le_trans h.size k.size,fun i hi hb=>(k.block i (Nat.lt_of_lt_of_le hi h.size) (fun e=>by have:=hrow i e.symm;omega)).trans (h.block i hi hb)⟩
theorem vk (s:ByteArray)(L K:List Nat)(x:Int)(a1 a2:Option Addr)(m1 c1 m2 c2 B:Nat)(w:World)(hL:L.length≤400)(hK:K.length≤400)
  (h1:w.ownsRow B 206 7 (.slice a1 m1 c1) L.length (dp s L)) (h2:w.ownsRow B 219 8 (.slice a2 m2 c2) K.length (dV s K)) :
  Calls Tryz.prog 103 #[.agg #[.int .i64 x,.slice a1 m1 c1,.slice a2 m2 c2]] w fun e w'=>e=.returned (.bool (mw s L K))∧w.grownBy w' none:=by
 have e1:=au h1
 have e2:=au h2
 subst e1 e2
 have hfun:∃ q,q=mw s L K:=⟨_,rfl⟩
 obtain⟨q,hq⟩:=hfun
 have HQ:=af hq
 rw[←hq]
 clear hq
 go_enter Tryz.func103,Tryz.ntmps103
 go_wp2_with fail
 go_loopw [11] (fun t wr=>∃ (k:Nat) (bs:Nat→Bool),k≤L.length∧t=.int .i64 k∧w.grownBy wr none∧Bd wr (w.heap.size+1) bs∧wr.cell? ⟨w.heap.size,2,none⟩=some (.slice a2 K.length c2)∧w.heap.size+1<wr.heap.size∧b9 s (L.take k) (fun _=>false)=some bs) (fun t _=>L.length - (intOf t).toNat)
 case atStart=>
  refine⟨0,fun _=>false,Nat.zero_le _,rfl,ab (ab (ag _ _) _) _,?_,by simp[go_sem],by simp,rfl⟩
  have h:=FC (w.alloc (.cells #[.int .i64 x,.slice a1 L.length c1,.slice a2 K.length c2] 169))
  simpa using h
 case round=>
  obtain⟨k,bs,hk,rfl,hg,hbd,hbx,hsz,hbo⟩:=hrel
  have HBO:=af hbo
  clear hbo
  have hz1:w.heap.size+1≠wr.heap.size:=by omega
  have hz2:wr.heap.size≠w.heap.size+1:=by omega
  by_cases hlt:k<L.length
  ·obtain⟨g,rfl,hgl,hgb,d0,d1,d2,d3,d4,d5,d6⟩:=rM h1 hg (fun g hg=>by cases hg) hlt
   obtain⟨hv1,hv2⟩:=FZ s L[k]
   have HT:=af (jq hlt HBO.out)
   by_cases hk1:(dg s L[k]).k=1
   ·have HA1:=af (fun (W:World) (hW:Bd W (w.heap.size+1) bs)=>za bs (dg s L[k]).a1 (dg s L[k]).a2 (w.heap.size+1) W hW hv1)
    have HA2:=af (fun (W:World) (hW:Bd W (w.heap.size+1) (je bs (dg s L[k]).a1 (dg s L[k]).a2))=>za (je bs (dg s L[k]).a1 (dg s L[k]).a2) (dg s L[k]).b1 (dg s L[k]).b2 (w.heap.size+1) W hW hv2)
    rw[if_pos hk1] at HT
    clear hv1 hv2
    go_wp2_with fail
    go_at_call 126
    refine (HA1.out _ (hbd.alloc _)).mono ?_
    rintro e w2 ⟨rfl,hb2,hg2⟩
    obtain⟨hc2,hf2⟩:=cL hg2
    go_wp2_with fail
    go_at_call 126
    refine (HA2.out _ hb2).mono ?_
    rintro e w3 ⟨rfl,hb3,hg3⟩
    have hg':w.grownBy w3 none:=aL (aL (ab hg _) hg2 (fun g hg=>by cases hg;omega)) hg3 (fun g hg=>by cases hg;omega)
    have hbx':w3.cell? ⟨w.heap.size,2,none⟩=some (.slice a2 K.length c2):=hg3.cell (hg2.cell (a:=⟨w.heap.size,2,none⟩) (by rw[World.cell?_alloc_past _ _ _ (by omega)];exact hbx) (by simp)) (by simp)
    have hsz':w.heap.size+1<w3.heap.size:=by have:=hg2.size;have:=hg3.size;simp at *;omega
    clear hg2 hg3 hc2 hf2 hb2 hbd hbx hg
    go_wp2
    go_roundw
    case rel=>exact⟨k+1,_,by omega,by go_num,hg',hb3,hbx',hsz',HT.out⟩
    case measure=>simp[intOf];omega
   ·have hk2:((dg s L[k]).k==1)=false:=by simpa using hk1
    rw[if_neg hk1] at HT
    have HLK:=af (fun (W:World) (hW:Bd W (w.heap.size+1) bs)=>sx bs (dg s L[k]).a1 (dg s L[k]).a2 (dg s L[k]).b1 (dg s L[k]).b2 (w.heap.size+1) W hW hv1 hv2)
    clear hv1 hv2
    change Hid (∀ (W:World) (hW:Bd W (w.heap.size+1) bs),Calls Tryz.prog 127 _ W fun e w'=>e=.returned (.bool (ig s L[k] bs))∧W.grownBy w' none) at HLK
    by_cases hlk:ig s L[k] bs=true
    ·rw[if_pos hlk] at HT
     rw[hlk] at HLK
     have HU:Hid (q=true):=af (by rw[HQ.out];unfold mw;rw[lM HT.out])
     go_wp2_with fail
     go_at_call 127
     refine (HLK.out _ (hbd.alloc _)).mono ?_
     rintro e w2 ⟨rfl,hg2⟩
     go_wp2
     go_ret
     exact⟨cZ HU.out.symm,ae (ab hg _) hg2⟩
    ·rw[if_neg hlk] at HT
     have hlk':ig s L[k] bs=false:=by simpa using hlk
     rw[hlk'] at HLK
     go_wp2_with fail
     go_at_call 127
     refine (HLK.out _ (hbd.alloc _)).mono ?_
     rintro e w2 ⟨rfl,hg2⟩
     have hb2:=(hbd.alloc _).kept hg2 (by simp)
     have hbx':w2.cell? ⟨w.heap.size,2,none⟩=some (.slice a2 K.length c2):=hg2.cell (a:=⟨w.heap.size,2,none⟩) (by rw[World.cell?_alloc_past _ _ _ (by omega)];exact hbx) (by simp)
     have hsz':w.heap.size+1<w2.heap.size:=by have:=hg2.size;simp at *;omega
     have hg':w.grownBy w2 none:=ae (ab hg _) hg2
     clear hg2 hbd hbx hg
     go_wp2
     go_roundw
     case rel=>exact⟨k+1,_,by omega,by go_num,hg',hb2,hbx',hsz',HT.out⟩
     case measure=>simp[intOf];omega
  ·have HBO':Hid (b9 s L (fun _=>false)=some bs):=af (by have:=HBO.out;rwa [List.take_of_length_le (by omega)] at this)
   have HU:Hid (q=iB s K bs):=af (by rw[HQ.out];unfold mw;rw[HBO'.out])
   clear HBO
   go_wp2_with fail
   go_loopw [33] (fun t wr=>∃ (k:Nat),k≤K.length∧t=.int .i64 k∧w.grownBy wr none∧Bd wr (w.heap.size+1) bs∧iB s (K.take k) bs=false) (fun t _=>K.length - (intOf t).toNat)
   case atStart=>exact⟨0,Nat.zero_le _,rfl,hg,hbd,rfl⟩
   case round=>
    clear hg hbd hbx hsz hz1 hz2
    obtain⟨k',hk',rfl,hg,hbd,hla⟩:=hrel
    have HLA:=af hla
    clear hla
    by_cases hlt':k'<K.length
    ·obtain⟨g,rfl,hgl,hgb,d0,d1,d2,d3,d4,d5,d6,d7⟩:=Bp h2 hg (fun g hg=>by cases hg) hlt'
     obtain⟨hv1,hv2⟩:=F0 s K[k']
     have HLK:=af (fun (W:World) (hW:Bd W (w.heap.size+1) bs)=>sx bs (dZ s K[k']).a1 (dZ s K[k']).a2 (dZ s K[k']).b1 (dZ s K[k']).b2 (w.heap.size+1) W hW hv1 hv2)
     clear hv1 hv2
     change Hid (∀ (W:World) (hW:Bd W (w.heap.size+1) bs),Calls Tryz.prog 127 _ W fun e w'=>e=.returned (.bool (jx s K[k'] bs))∧W.grownBy w' none) at HLK
     have HT:Hid (iB s (K.take (k'+1)) bs=jx s K[k'] bs):=af (by
      have:=HLA.out
      unfold iB at this ⊢
      rw[List.take_succ_eq_append_getElem hlt',List.any_append,this];simp)
     by_cases hlk:jx s K[k'] bs=true
     ·rw[hlk] at HLK
      have HU':Hid (q=true):=af (by
       rw[HU.out]
       have:=HT.out
       rw[hlk] at this
       unfold iB at this ⊢
       rw[←List.take_append_drop (k'+1) K,List.any_append,this];simp)
      go_wp2_with fail
      go_at_call 127
      refine (HLK.out _ (hbd.alloc _)).mono ?_
      rintro e w2 ⟨rfl,hg2⟩
      go_wp2
      go_ret
      exact⟨cZ HU'.out.symm,ae (ab hg _) hg2⟩
     ·have hlk':jx s K[k'] bs=false:=by simpa using hlk
      rw[hlk'] at HLK HT
      go_wp2_with fail
      go_at_call 127
      refine (HLK.out _ (hbd.alloc _)).mono ?_
      rintro e w2 ⟨rfl,hg2⟩
      have hb2:=(hbd.alloc _).kept hg2 (by simp)
      have hg':w.grownBy w2 none:=ae (ab hg _) hg2
      clear hg2 hbd hg
      go_wp2
      go_roundw
      case rel=>exact⟨k'+1,by omega,by go_num,hg',hb2,HT.out⟩
      case measure=>simp[intOf];omega
    ·have HU':Hid (q=false):=af (by rw[HU.out];have:=HLA.out;rwa [List.take_of_length_le (by omega)] at this)
     go_wp2
     go_ret
     exact⟨cZ HU'.out.symm,hg⟩
def jO (s:ByteArray)(R:List ay)(k:Nat):Prop:=∃ h:k<R.length,mw s R[k].2.1 R[k].2.2=true
theorem nK (s:ByteArray)(R:List ay)(B:Nat)(v:Value)(w:World)(hR:R.length≤400)(hlen:∀ k (h:k<R.length),R[k].2.1.length≤400∧R[k].2.2.length≤400)(h:bP w B s v R):
  Calls Tryz.prog 75 #[v] w fun e w'=>∃ o,bI (jO s R) R.length o∧e=.returned (rH o)∧w.grownBy w' none:=by
 obtain⟨xs,hown,hpar⟩:=h
 obtain⟨a,m,c,rfl⟩:=an hown
 have e1:=au hown
 subst e1
 have HLEN:=af hlen
 clear hlen
 go_enter Tryz.func75,Tryz.ntmps75
 go_wp2_with fail
 go_loopw [8] (fun t wr=>∃ k:Nat,k≤R.length∧t=.int .i64 k∧w.grownBy wr none∧∀ j,j<k→¬jO s R j) (fun t _=>R.length - (intOf t).toNat)
 case atStart=>exact⟨0,Nat.zero_le _,rfl,ag _ _,fun j hj=>by omega⟩
 case round=>
  obtain⟨k,hk,rfl,hg,hno⟩:=hrel
  have HN:=af hno
  clear hno
  by_cases hlt:k<R.length
  ·obtain⟨a1,m1,c1,a2,m2,c2,x0,x1,x2,o1,o2⟩:=jJ R xs hpar k hlt
   obtain⟨g,rfl,_,hgb,hgl,hcell⟩:=aC hown (by omega)
   have d0:=hg.cell (hcell _ _ x0) (by simp)
   have d1:=hg.cell (hcell _ _ x1) (by simp)
   have d2:=hg.cell (hcell _ _ x2) (by simp)
   have o1':=aq o1 hg (fun g hg=>by cases hg)
   have o2':=aq o2 hg (fun g hg=>by cases hg)
   clear hcell x0 x1 x2 o1 o2
   have HOV:=af (vk s R[k].2.1 R[k].2.2 (bt s R[k].1 - 48) a1 a2 m1 c1 m2 c2 B _ (HLEN.out k hlt).1 (HLEN.out k hlt).2 (o1'.alloc (.cells #[.int .i64 (bt s R[k].1 - 48),.slice a1 m1 c1,.slice a2 m2 c2] 169)) (o2'.alloc _))
   clear o1' o2'
   by_cases hb:mw s R[k].2.1 R[k].2.2=true
   ·rw[hb] at HOV
    have HB:=af hb
    clear hb
    go_wp2_with (go_at_call 103;refine HOV.out.mono ?_;rintro e w2 ⟨rfl,hg2⟩)
    go_ret2
    exact⟨some k,⟨hlt,⟨hlt,HB.out⟩,HN.out⟩,rfl,ae (ab hg _) hg2⟩
   ·have hb':mw s R[k].2.1 R[k].2.2=false:=by simpa using hb
    rw[hb'] at HOV
    have HB:=af hb
    clear hb hb'
    go_wp2_with (go_at_call 103;refine HOV.out.mono ?_;rintro e w2 ⟨rfl,hg2⟩)
    go_roundw
    case rel=>
     refine⟨k+1,by omega,by go_num,ae (ab hg _) hg2,?_⟩
     intro j hj
     by_cases e:j=k
     ·subst e;rintro⟨_,h⟩;exact HB.out h
     ·exact HN.out j (by omega)
    case measure=>simp[intOf];omega
  ·go_wp2
   go_ret2
   refine⟨none,?_,rfl,hg⟩
   intro j hj
   exact HN.out j (by omega)
theorem FR {s:ByteArray}{i:Nat}{L K:List Nat}{j:Nat}{ok:Bool}(h:rf s i L K j ok):i≤j:=by
 rcases h with ⟨_,_,_,e,_⟩|⟨_,_,_,_,e,_⟩|⟨_,_,h1,_,_⟩|⟨_,_,_,h1,h2⟩
 ·omega
 ·omega
 ·have:=tP h1;omega
 ·have:=tP h1;have:=yf h2;omega
theorem oZ {s:ByteArray}{i:Nat}{R:List ay}{j:Nat}{ok:Bool}(h:kW s i R j ok):i+R.length≤j:=
 kW.ind (M:=fun i R j _=>i+R.length≤j) (fun _ _=>by simp) (fun _ _ _ _ _ h=>by have:=FR h;simpa using this) (fun _ _ _ _ _ _ _ _ h _ ih=>by have:=Cg h;simp;omega) h
theorem mr {s:ByteArray}{R:List ay}(h:bI (iV s R) R.length none)(k:Nat)(hk:k<R.length):R[k].2.1.length≤5∧R[k].2.2.length≤4∧k<9:=by
 have h0:=h k hk
 have h1:¬(9≤k∨ip s R[k].2.1 R[k].2.2=true):=fun hx=>h0 ⟨hk,hx⟩
 simp only[ip,not_or,Bool.or_eq_true,decide_eq_true_eq] at h1
 omega
def cz (s:ByteArray)(x p:Int)(o:Option (List ay)):Prop:=
 (400<s.size∧x=1∧p=0∧o=none)∨
 (∃ (R:List ay) (j:Nat),s.size≤400∧kW s 0 R j false∧x=2∧p=j∧o=none)∨
 (∃ (R:List ay) (j m:Nat),s.size≤400∧kW s 0 R j true∧bI (iV s R) R.length (some m)∧x=3∧p=m∧o=none)∨
 (∃ (R:List ay) (j m:Nat),s.size≤400∧kW s 0 R j true∧bI (iV s R) R.length none∧bI (jO s R) R.length (some m)∧x=4∧p=m∧o=none)∨
 (∃ (R:List ay) (j:Nat),s.size≤400∧kW s 0 R j true∧bI (iV s R) R.length none∧bI (jO s R) R.length none∧x=0∧p=0∧o=some R)
theorem cz.long {s:ByteArray}(h:400<s.size):cz s 1 0 none:=.inl ⟨h,rfl,rfl,rfl⟩
theorem cz.form {s:ByteArray}{R:List ay}{j:Nat}(h:s.size≤400)(h1:kW s 0 R j false):cz s 2 j none:=.inr (.inl ⟨R,j,h,h1,rfl,rfl,rfl⟩)
theorem cz.many {s:ByteArray}{R:List ay}{j m:Nat}(h:s.size≤400)(h1:kW s 0 R j true)(h2:bI (iV s R) R.length (some m)):cz s 3 m none:=.inr (.inr (.inl ⟨R,j,m,h,h1,h2,rfl,rfl,rfl⟩))
theorem cz.unbound {s:ByteArray}{R:List ay}{j m:Nat}(h:s.size≤400)(h1:kW s 0 R j true)(h2:bI (iV s R) R.length none)(h3:bI (jO s R) R.length (some m)):cz s 4 m none:=.inr (.inr (.inr (.inl ⟨R,j,m,h,h1,h2,h3,rfl,rfl,rfl⟩)))
theorem cz.ok {s:ByteArray}{R:List ay}{j:Nat}(h:s.size≤400)(h1:kW s 0 R j true)(h2:bI (iV s R) R.length none)(h3:bI (jO s R) R.length none):cz s 0 0 (some R):=.inr (.inr (.inr (.inr ⟨R,j,h,h1,h2,h3,rfl,rfl,rfl⟩)))
def C6 (w:World)(s:ByteArray)(e:Ending)(w':World):Prop:=
 ∃ v x p o,e=.returned (.tuple #[v,.int .i64 x,.int .i64 p])∧cz s x p o∧(∀ R,o=some R→bP w' w.heap.size s v R)∧(o=none→v=.slice none 0 0)∧w.grownBy w' none
theorem jw {w w':World}{B:Nat}{s:ByteArray}{v:Value}{R:List ay}(h:bP w B s v R)(hg:w.grownBy w' none):bP w' B s v R:=by
 obtain⟨xs,h1,h2⟩:=h
 exact⟨xs,aq h1 hg (fun g hg=>by cases hg),fu hg (fun g hg=>by cases hg) R xs h2⟩
theorem qV {w:World}{B B':Nat}{s:ByteArray}{v:Value}{R:List ay}(hb:B'≤B)(h:bP w B s v R):bP w B' s v R:=by
 obtain⟨xs,h1,h2⟩:=h
 refine⟨xs,bN h1 hb,?_⟩
 clear h1
 induction R generalizing xs with
 |nil=>exact h2
 |cons r R ih=>
  obtain⟨b1,n1,d1,b2,n2,d2,ys,e,k1,k2,k3⟩:=h2
  exact⟨b1,n1,d1,b2,n2,d2,ys,e,bN k1 hb,bN k2 hb,ih ys k3⟩
theorem Dz (s:ByteArray)(w:World)(hs:s.size≤maxLen):
  Calls Tryz.prog 38 #[.string s] w (C6 w s):=by
 unfold maxLen at hs
 by_cases h400:400<s.size
 ·go_enter Tryz.func38,Tryz.ntmps38
  go_wp2
  go_ret3
  exact⟨_,_,_,none,rfl,.long h400,(fun R h=>by cases h),(fun _=>rfl),ag _ _⟩
 ·have h4:s.size≤400:=by omega
  have hr:Rd (w.alloc (.cells #[.string s,.int .i64 0] 147)) w.heap.size s 0:=heap_alloc_new w _
  go_enter Tryz.func38,Tryz.ntmps38
  go_wp2_with fail
  go_at_call 73
  refine (Ay s w.heap.size 0 _ ⟨h4,by omega⟩ hr).mono ?_
  rintro e w1 ⟨R,j,ok,v,rfl,hrls,hown,hj,hr1,hg1⟩
  have hg1':w.grownBy w1 none:=aL (ab (ag _ _) _) hg1 (fun g hg=>by cases hg;exact Nat.le_refl _)
  have c1:=hr1.c1
  have HR:=af hrls
  have hlen:=oZ hrls
  clear hrls hr hr1
  cases ok
  ·go_wp2_with fail
   go_quiet ((fail))
   go_wp2
   go_ret3
   exact⟨_,_,_,none,rfl,.form h4 HR.out,(fun R h=>by cases h),(fun _=>rfl),al hg1' _⟩
  ·replace hown:=hown rfl
   have hown':=qV (B':=w.heap.size) (by simp) hown
   go_wp2_with fail
   go_at_call 74
   refine (mX s R w.heap.size v _ (by omega) hown').mono ?_
   rintro e w2 ⟨o,ho,rfl,hg2⟩
   have hown2:=jw hown' hg2
   have HO:=af ho
   cases o with
   |some m=>
    unfold rH
    go_wp2
    go_ret3
    exact⟨_,_,_,none,rfl,.many h4 HR.out HO.out,(fun R h=>by cases h),(fun _=>rfl),ae hg1' hg2⟩
   |none=>
    have HL:=af (mr ho)
    clear ho
    unfold rH
    go_wp2_with fail
    go_at_call 75
    refine (nK s R w.heap.size v _ (by omega) (fun k hk=>by have:=HL.out k hk;omega) hown2).mono ?_
    rintro e w3 ⟨o,ho,rfl,hg3⟩
    have hown3:=jw hown2 hg3
    have HO2:=af ho
    clear ho
    cases o with
    |some m=>
     unfold rH
     go_wp2
     go_ret3
     exact⟨_,_,_,none,rfl,.unbound h4 HR.out HO.out HO2.out,(fun R h=>by cases h),(fun _=>rfl),ae (ae hg1' hg2) hg3⟩
    |none=>
     unfold rH
     go_wp2
     go_ret3
     exact⟨_,_,_,some R,rfl,.ok h4 HR.out HO.out HO2.out,(fun R' h=>by cases h;exact hown3),(fun h=>by cases h),ae (ae hg1' hg2) hg3⟩
theorem cz.zero {s:ByteArray}{x p:Int}{o:Option (List ay)}(h:cz s x p o):(x=0∧p=0∧∃ R,o=some R)∨(1≤x∧x≤4∧o=none):=by
 rcases h with ⟨_,rfl,rfl,rfl⟩|⟨R,j,_,_,rfl,rfl,rfl⟩|⟨R,j,m,_,_,_,rfl,rfl,rfl⟩|⟨R,j,m,_,_,_,_,rfl,rfl,rfl⟩|⟨R,j,_,_,_,_,rfl,rfl,rfl⟩
 ·right;exact⟨by omega,by omega,rfl⟩
 ·right;exact⟨by omega,by omega,rfl⟩
 ·right;exact⟨by omega,by omega,rfl⟩
 ·right;exact⟨by omega,by omega,rfl⟩
 ·left;exact⟨rfl,rfl,_,rfl⟩
def Ed (w:World)(s:ByteArray)(room:Int)(e:Ending)(w':World):Prop:=
 ∃ x p o,cz s x p o∧w.grownBy w' none∧
   ((1≤x∧x≤4∧e=.returned (.tuple #[.pointer none,.int .i64 x,.int .i64 p]))∨
    (x=0∧(room<1∨999<room)∧e=.returned (.tuple #[.pointer none,.int .i64 5,.int .i64 0]))∨
    (x=0∧1≤room∧room≤999∧∃ g R v,o=some R∧e=.returned (.tuple #[.pointer (some ⟨g,0,none⟩),.int .i64 0,.int .i64 0])∧w.heap.size≤g∧w'.heap[g]?=some (.cells ((Tryz.zeroCells91.setIfInBounds 0 v).setIfInBounds 1 (.int .i64 room)) 91 (0,0))∧bP w' w.heap.size s v R))
theorem EF (s:ByteArray)(room:Int)(w:World)(hs:s.size≤maxLen):
  Calls Tryz.prog 16 #[.string s,.int .i64 room] w (Ed w s room):=by
 go_enter Tryz.func16,Tryz.ntmps16
 go_wp2_with fail
 go_at_call 38
 refine (Dz s w hs).mono ?_
 rintro e w1 ⟨v,x,p,o,rfl,ha,ho,hn,hg⟩
 have HA:=af ha
 rcases ha.zero with ⟨rfl,rfl,R,rfl⟩|⟨hx1,hx2,rfl⟩
 ·have HO:=af (ho R rfl)
  obtain⟨xs,hown,hpar⟩:=ho R rfl
  obtain⟨a,m,c,rfl⟩:=an hown
  clear hpar hown ho ha hn
  by_cases h1:room<1
  ·go_wp2
   go_ret3
   exact⟨_,_,_,HA.out,hg,.inr (.inl ⟨rfl,.inl h1,rfl⟩)⟩
  ·by_cases h2:999<room
   ·go_wp2
    go_ret3
    exact⟨_,_,_,HA.out,hg,.inr (.inl ⟨rfl,.inr h2,rfl⟩)⟩
   ·have hsz:=hg.size
    go_wp2
    go_ret3
    exact⟨_,_,_,HA.out,ab hg _,.inr (.inr ⟨rfl,by omega,by omega,w1.heap.size,R,_,rfl,rfl,hsz,heap_alloc_new w1 _,jw HO.out (World.grownBy_alloc w1 _ none)⟩)⟩
 ·have hv:=hn rfl
  subst hv
  have hx0:(x != 0)=true:=by simp;omega
  clear ho ha hn
  go_wp2
  go_ret3
  exact⟨_,_,_,HA.out,hg,.inl ⟨hx1,hx2,rfl⟩⟩
theorem aU {w:World}{base:Nat}{e t:TypeId}{size:Nat}{v:Value}{n:Nat}{xs:List Value}{g:Nat}{cs:Array Value}(h:w.ownsRow base e size v n xs)(hk:w.heap[g]?=some (.cells cs t (0,0)))(ht:e≠t):v.ownBlock≠some g:=by
 intro hx
 obtain⟨cs',hc⟩:=fw h g hx
 rw[hc] at hk;simp at hk;exact ht hk.2
theorem dn {w w':World}{base:Nat}{e:TypeId}{size:Nat}{v:Value}{n:Nat}{xs:List Value}(h:w.ownsRow base e size v n xs)(hw:w'.heap=w.heap):w'.ownsRow base e size v n xs:=by
 unfold World.ownsRow at h ⊢
 rw[hw];exact h
theorem iD {w w':World}(h:w'.heap=w.heap)(a:Addr):w'.cell? a=w.cell? a:=by simp[World.cell?,h]
theorem bj {w:World}{xs:List Value}{t:TypeId}{j:Nat}{u:Value}(h:xs[j]?=some u):(w.alloc (.cells xs.toArray t)).cell? ((⟨w.heap.size,0,none⟩:Addr).add j)=some u:=by
 have hadd:(⟨w.heap.size,0,none⟩:Addr).add j=⟨w.heap.size,j,none⟩:=by unfold Addr.add;split <;> simp_all
 rw[hadd,World.cell?_alloc_at _ _ _ _ rfl]
 simpa using h
end Go.Proofs.YthlhbjnkohinmaaGreat
