import Derived.Test.YthlhbjnkohinmaaGreatP02
namespace Go.Proofs.YthlhbjnkohinmaaGreat
set_option maxRecDepth 100000
set_option maxHeartbeats 8000000
open Go.RowKit
def tY (w:World)(b:Nat):Nat:=match w.cell? ⟨b,1,none⟩ with|some (.int _ z)=>z.toNat|_=>0
theorem nu {w:World}{o:Obj}{xs:List Value}{t:TypeId}{j:Nat}{u:Value}(h:xs[j]?=some u):((w.alloc o).alloc (.cells xs.toArray t)).cell? ((⟨w.heap.size+1,0,none⟩:Addr).add j)=some u:=by
 have hadd:(⟨w.heap.size+1,0,none⟩:Addr).add j=⟨w.heap.size+1,j,none⟩:=by unfold Addr.add;split <;> simp_all
 rw[hadd,World.cell?_alloc_at _ _ _ _ (by simp)]
 simpa using h
theorem nJ {w W w3:World}{b:Nat}{row:Option Nat}(h:w.grownBy W (some b))(k:W.grownBy w3 row)(hrow:∀ g,row=some g→w.heap.size≤g):w.grownBy w3 (some b):=
 ⟨k.os.trans h.os,k.tape.trans h.tape,k.output.trans h.output,Nat.le_trans h.size k.size,fun i hi hb=>(k.block i (Nat.lt_of_lt_of_le hi h.size) (fun e=>by have:=hrow i e.symm;omega)).trans (h.block i hi hb)⟩
theorem gR {w:World}{base b:Nat}{e:TypeId}{size:Nat}{v:Value}{n:Nat}{xs:List Value}(h:w.ownsRow base e size v n xs)(hb:b<base):v.ownBlock≠some b:=by
 intro hx;have:=(h.lt b hx).1;omega
theorem su {s:ByteArray}{i:Nat}(h:i≤s.size):i+bz s i≤s.size:=by
 unfold bz
 split
 ·have:=dR (by assumption)
  split
  ·have:=lD (by assumption)
   split
   ·have:=lD (by assumption);omega
   ·omega
  ·omega
 ·omega
theorem Bt {s:ByteArray}{i:Nat}(h:i≤s.size):i+bT s i≤s.size:=by
 unfold bT
 split
 ·have:=gt (by assumption)
  split
  ·have:=nR (by assumption)
   split
   ·have:=gt (by assumption);omega
   ·omega
  ·omega
 ·omega
theorem lh {s:ByteArray}{i:Nat}(h:i<s.size):i+aH s i≤s.size:=by
 unfold aH
 split
 ·have:=su (s:=s) (i:=i+1) (by omega);omega
 ·split
  ·exact su (by omega)
  ·exact Bt (by omega)
theorem zZ {s:ByteArray}{i:Nat}(h:i≤s.size):i+cR s i≤s.size:=by
 unfold cR
 split
 ·have h1:=dR (by assumption)
  split
  ·have h2:=kg (by assumption)
   have h3:=eB s (i+1)
   split
   ·have:=kg (by assumption)
    have:=eB s (db s (i+1));omega
   ·omega
  ·omega
 ·omega
theorem Ba {s:ByteArray}{i:Nat}(h:i≤s.size):i+da s i≤s.size:=by
 unfold da
 split
 ·have h1:=dR (by assumption)
  split
  ·have h2:=kg (by assumption)
   have h3:=eB s (i+1);omega
  ·omega
 ·omega
theorem mV {s:ByteArray}{i:Nat}(h:i<s.size):i+aS s i≤s.size:=by
 unfold aS
 split
 ·have:=zZ (s:=s) (i:=i+1) (by omega);omega
 ·split
  ·have:=Ba (s:=s) (i:=i+1) (by omega);omega
  ·split <;> omega
theorem jQ {w:World}{b:Nat}{s:ByteArray}{i:Nat}(h:Rd w b s i):tY w b=i:=by simp[tY,h.c1]
theorem Eu (s:ByteArray)(b i:Nat)(w:World)(hB:s.size≤400∧i≤400)(hr:Rd w b s i)(h:b7 s i=true):
  Calls Tryz.prog 141 #[.pointer (some ⟨b,0,none⟩)] w (RP w b s (.tuple #[.agg #[.int .i64 (dj s i).k,.int .i64 (dj s i).c,.int .u8 (dj s i).g,.int .i64 (dj s i).a1,.int .i64 (dj s i).a2,.int .i64 (dj s i).b1,.int .i64 (dj s i).b2],.bool true]) (i+aH s i)):=by
 have hc:=vr s b i w hB hr
 rw[F0 h,h] at hc
 exact hc
theorem CK (s:ByteArray)(b i:Nat)(w:World)(hB:s.size≤400∧i≤400)(hr:Rd w b s i)(h:b7 s i=false):
  Calls Tryz.prog 141 #[.pointer (some ⟨b,0,none⟩)] w (RP w b s (.tuple #[.agg #[.int .i64 (wy s i).k,.int .i64 (wy s i).c,.int .u8 (wy s i).g,.int .i64 (wy s i).a1,.int .i64 (wy s i).a2,.int .i64 (wy s i).b1,.int .i64 (wy s i).b2],.bool false]) (i+aH s i)):=by
 have hc:=vr s b i w hB hr
 rw[h] at hc
 exact hc
structure Fy (s:ByteArray)(M:Nat→List Nat→Nat→Bool→Prop):Prop where
 out:∀ i,¬i<s.size→M i [] i false
 bad:∀ i,i<s.size→b7 s i=false→M i [] (i+aH s i) false
 last:∀ i,i<s.size→b7 s i=true→bt s (i+aH s i)=62→M i [i] (i+aH s i+1) true
 stray:∀ i,i<s.size→b7 s i=true→¬bt s (i+aH s i)=62→¬bt s (i+aH s i)=44→M i [i] (i+aH s i) false
 next:∀ i L j ok,i<s.size→b7 s i=true→bt s (i+aH s i)=44→M (i+aH s i+1) L j ok→M i (i::L) j ok
def jA (s:ByteArray)(i:Nat)(L:List Nat)(j:Nat)(ok:Bool):Prop:=∀ M,Fy s M→M i L j ok
theorem jA.out {s:ByteArray}{i:Nat}(h:¬i<s.size):jA s i [] i false:=fun _ c=>c.out i h
theorem jA.bad {s:ByteArray}{i:Nat}(h:i<s.size)(h1:b7 s i=false):jA s i [] (i+aH s i) false:=fun _ c=>c.bad i h h1
theorem jA.last {s:ByteArray}{i:Nat}(h:i<s.size)(h1:b7 s i=true)(h2:bt s (i+aH s i)=62):jA s i [i] (i+aH s i+1) true:=fun _ c=>c.last i h h1 h2
theorem jA.stray {s:ByteArray}{i:Nat}(h:i<s.size)(h1:b7 s i=true)(h2:¬bt s (i+aH s i)=62)(h3:¬bt s (i+aH s i)=44):jA s i [i] (i+aH s i) false:=fun _ c=>c.stray i h h1 h2 h3
theorem jA.next {s:ByteArray}{i:Nat}{L:List Nat}{j:Nat}{ok:Bool}(h:i<s.size)(h1:b7 s i=true)(h2:bt s (i+aH s i)=44)(h3:jA s (i+aH s i+1) L j ok):jA s i (i::L) j ok:=fun M c=>c.next i L j ok h h1 h2 (h3 M c)
theorem jA.ind {s:ByteArray}{M:Nat→List Nat→Nat→Bool→Prop}(out:∀ i,¬i<s.size→M i [] i false)(bad:∀ i,i<s.size→b7 s i=false→M i [] (i+aH s i) false)
  (last:∀ i,i<s.size→b7 s i=true→bt s (i+aH s i)=62→M i [i] (i+aH s i+1) true)
  (stray:∀ i,i<s.size→b7 s i=true→¬bt s (i+aH s i)=62→¬bt s (i+aH s i)=44→M i [i] (i+aH s i) false)
  (next:∀ i L j ok,i<s.size→b7 s i=true→bt s (i+aH s i)=44→jA s (i+aH s i+1) L j ok→M (i+aH s i+1) L j ok→M i (i::L) j ok)
  {i:Nat} {L:List Nat} {j:Nat} {ok:Bool} (h:jA s i L j ok):M i L j ok:=
 (h (fun i L j ok=>jA s i L j ok∧M i L j ok) ⟨fun i h=>⟨.out h,out i h⟩,fun i h h1=>⟨.bad h h1,bad i h h1⟩,fun i h h1 h2=>⟨.last h h1 h2,last i h h1 h2⟩,fun i h h1 h2 h3=>⟨.stray h h1 h2 h3,stray i h h1 h2 h3⟩,fun i L j ok h h1 h2 h3=>⟨.next h h1 h2 h3.1,next i L j ok h h1 h2 h3.1 h3.2⟩⟩).2
def dq (s:ByteArray)(L:List Nat):List Value:=L.flatMap fun p=>[.int .i64 (dj s p).k,.int .i64 (dj s p).c,.int .u8 (dj s p).g,.int .i64 (dj s p).a1,.int .i64 (dj s p).a2,.int .i64 (dj s p).b1,.int .i64 (dj s p).b2]
theorem rt (s:ByteArray)(L:List Nat)(i':Nat):dq s (L++[i'])=dq s L++[.int .i64 (dj s i').k,.int .i64 (dj s i').c,.int .u8 (dj s i').g,.int .i64 (dj s i').a1,.int .i64 (dj s i').a2,.int .i64 (dj s i').b1,.int .i64 (dj s i').b2]:=by simp[dq]
theorem Tryz.info206:(Tryz.prog.info? 206).map (fun i=>(i.zero,i.size,i.bytes))=some (some (.agg #[.int .i64 0,.int .i64 0,.int .u8 0,.int .i64 0,.int .i64 0,.int .i64 0,.int .i64 0]),7,56):=by kernel_rfl
def Ef (w:World)(b:Nat)(s:ByteArray)(i:Nat)(e:Ending)(w':World):Prop:=
 ∃ L j ok v,e=.returned (.tuple #[v,.bool ok])∧jA s i L j ok∧(ok=true→w'.ownsRow w.heap.size 206 7 v L.length (dq s L))∧(ok=false→v=.slice none 0 0)∧j≤400∧Rd w' b s j∧w.grownBy w' (some b)
theorem qb (s:ByteArray)(b i:Nat)(w:World)(hB:s.size≤400∧i≤400)(hr:Rd w b s i):
  Calls Tryz.prog 124 #[.pointer (some ⟨b,0,none⟩)] w (Ef w b s i):=by
 have hs:=hB.1
 have hl:=hr.lt
 obtain⟨i0,hi0,hz0,hz1,hz2⟩:=info_parts Tryz.info206
 go_enter Tryz.func124,Tryz.ntmps124
 go_wp2_with fail
 go_loopw [4] (fun v wr=>∃ (L0:List Nat) (i':Nat),Rd wr b s i'∧i'≤400∧i'≤s.size+i∧L0.length≤i'∧wr.ownsRow w.heap.size 206 7 v L0.length (dq s L0)∧w.grownBy wr (some b)∧(∀ L j ok,jA s i' L j ok→jA s i (L0++L) j ok))
  (fun _ wr=>400 - tY wr b)
 case atStart=>exact⟨[],i,hr,hB.2,by omega,Nat.zero_le _,World.ownsRow_nil _ _ _ _,ag _ _,fun L j ok h=>h⟩
 case round=>
  obtain⟨L0,i',hr0,hi4,hi5,hL0,hown,hg0,HC⟩:=hrel
  have c0:=hr0.c0
  have c1:=hr0.c1
  have hB':s.size≤400∧i'≤400:=⟨hs,hi4⟩
  have HC':=af HC
  clear HC
  by_cases hlt:i'<s.size
  ·by_cases hok:b7 s i'=true
   ·go_wp2_with fail
    go_quiet ((fail))
    go_wp2_with fail
    go_at_call 141
    refine (Eu s b i' _ hB' (hr0.drewN _) hok).mono ?_
    rintro e w2 ⟨rfl,hr2,hg2⟩
    replace hg2:=cF hg2
    have hown2:=hown.kept hg2 (.inr (gR hown hl))
    have hsz:=hg0.size
    have hsz2:=hg2.size
    go_wp2_with (first|(at_builtin;refine wpList_append_own _ rfl (.tmp 24) (.tmp 26) 166 rfl (w.heap.size) 206 i0 (.agg #[.int .i64 0,.int .i64 0,.int .u8 0,.int .i64 0,.int .i64 0,.int .i64 0,.int .i64 0]) 7 56 Tryz.underlying166 hi0 hz0 hz1 hz2 rfl (by decide) _ _ _ rfl ((hown2.alloc _).alloc _) _ 1 1 [.int .i64 (dj s i').k,.int .i64 (dj s i').c,.int .u8 (dj s i').g,.int .i64 (dj s i').a1,.int .i64 (dj s i').a2,.int .i64 (dj s i').b1,.int .i64 (dj s i').b2] rfl rfl ?c1 ?c2 ?c3 ?c4 ?c5 ?_))
    case c1=>
     intro j u hj
     exact nu hj
    case c2=>intro u hu;simp at hu;rcases hu with h|h|h|h|h|h|h <;> subst h <;> rfl
    case c3=>unfold maxLen;omega
    case c4=>omega
    case c5=>simp;omega
    ·intro v' w3 hown3 hg3 _
     have hbd:=lh hlt
     have hown3':w3.ownsRow w.heap.size 206 7 v' (L0++[i']).length (dq s (L0++[i'])):=by rw[rt];simpa using hown3
     have hr3:Rd w3 b s (i'+aH s i'):=(hg3.block b (by have:=hr2.lt;simp;omega) (fun e=>gR hown hl e.symm)).trans ((hr2.alloc _).alloc _)
     have hg3':w.grownBy w3 (some b):=nJ (ab (ab (ae hg0 hg2) _) _) hg3 (fun g hg=>(hown.lt g hg).1)
     clear hown3 hg3 hown2 hown hg2 hr2 hg0 c0 c1
     obtain⟨j,hj⟩:∃ j,j=i'+aH s i':=⟨_,rfl⟩
     have hB3:s.size≤400∧j≤400:=by omega
     rw[←hj] at hr3
     have hlen:(L0++[i']).length≤j+1:=by simp;omega
     by_cases h62:bt s j=62
     ·have HN:Hid (jA s i (L0++[i']) (j+1) true):=af (by have:=HC'.out _ _ _ (.last hlt hok (by rw[←hj];exact h62));rw[←hj] at this;exact this)
      have hj1:=dg (s:=s) (i:=j) (by omega)
      clear hj
      have H62:=af h62
      clear h62
      go_wp2_with fail
      go_at_call 123
      refine (eP s b j _ hB3 hr3 62 H62.out).mono ?_
      rintro e w4 ⟨rfl,hr4,hg4⟩
      have hown4:=hown3'.kept hg4 (.inr (gR hown3' hl))
      go_wp2
      go_ret2
      exact⟨L0++[i'],j+1,true,v',rfl,HN.out,(fun _=>hown4),(fun h=>by cases h),by omega,hr4,ae hg3' hg4⟩
     ·have H62:=af h62
      by_cases h44:bt s j=44
      ·have HN:Hid (∀ L j' ok,jA s (j+1) L j' ok→jA s i ((L0++[i'])++L) j' ok):=af (by
        intro L j' ok hn
        have:=HC'.out _ _ _ (.next hlt hok (by rw[←hj];exact h44) (by rw[←hj];exact hn))
        simpa using this)
       have hj1:=dg (s:=s) (i:=j) (by omega)
       have hji:i'<j+1:=by omega
       clear hj
       have H44:=af h44
       clear h62 h44
       go_wp2_with fail
       go_at_call 123
       refine (dl s b j _ hB3 hr3 62 H62.out).mono ?_
       rintro e w4 ⟨rfl,hr4,hg4⟩
       have hown4:=hown3'.kept hg4 (.inr (gR hown3' hl))
       have hg4':=ae hg3' hg4
       clear hown3' hg4 hg3'
       go_wp2_with fail
       go_at_call 123
       refine (eP s b j _ hB3 hr4 44 H44.out).mono ?_
       rintro e w5 ⟨rfl,hr5,hg5⟩
       have hown5:=hown4.kept hg5 (.inr (gR hown4 hl))
       have hg5':=ae hg4' hg5
       have hp0:=af (jQ hr0)
       have hp5:=af (jQ hr5)
       clear hown4 hg5 hg4' hr0
       go_wp2
       go_roundw
       case rel=>exact⟨L0++[i'],j+1,hr5,by omega,by omega,hlen,hown5,hg5',HN.out⟩
       case measure=>rw[hp0.out,hp5.out];omega
      ·have HN:Hid (jA s i (L0++[i']) j false):=af (by have:=HC'.out _ _ _ (.stray hlt hok (by rw[←hj];exact h62) (by rw[←hj];exact h44));rw[←hj] at this;exact this)
       clear hj
       have H44:=af h44
       clear h62 h44
       go_wp2_with fail
       go_at_call 123
       refine (dl s b j _ hB3 hr3 62 H62.out).mono ?_
       rintro e w4 ⟨rfl,hr4,hg4⟩
       have hg4':=ae hg3' hg4
       clear hown3' hg4 hg3'
       go_wp2_with fail
       go_at_call 123
       refine (dl s b j _ hB3 hr4 44 H44.out).mono ?_
       rintro e w5 ⟨rfl,hr5,hg5⟩
       have hg5':=ae hg4' hg5
       clear hg5 hg4'
       go_wp2
       go_ret2
       exact⟨L0++[i'],j,false,.slice none 0 0,rfl,HN.out,(fun h=>by cases h),(fun _=>rfl),by omega,hr5,hg5'⟩
   ·have hok:b7 s i'=false:=by simpa using hok
    go_wp2_with fail
    go_quiet ((fail))
    go_wp2_with fail
    go_at_call 141
    refine (CK s b i' _ hB' (hr0.drewN _) hok).mono ?_
    rintro e w2 ⟨rfl,hr2,hg2⟩
    replace hg2:=cF hg2
    have hbd:=lh hlt
    go_wp2
    go_ret2
    exact⟨L0++[],i'+aH s i',false,.slice none 0 0,rfl,HC'.out _ _ _ (.bad hlt hok),(fun h=>by cases h),(fun _=>rfl),by omega,hr2.alloc _,ab (ae hg0 hg2) _⟩
  ·go_wp2_with fail
   go_quiet ((fail))
   go_wp2
   go_ret2
   exact⟨L0++[],i',false,.slice none 0 0,rfl,HC'.out _ _ _ (.out hlt),(fun h=>by cases h),(fun _=>rfl),hi4,hr0.drewN _,al hg0 _⟩
theorem Fz (s:ByteArray)(b i:Nat)(w:World)(hB:s.size≤400∧i≤400)(hr:Rd w b s i)(h:cT s i=true):
  Calls Tryz.prog 142 #[.pointer (some ⟨b,0,none⟩)] w (RP w b s (.tuple #[.agg #[.int .i64 (eh s i).k,.int .i64 (eh s i).c,.int .i64 (eh s i).a1,.int .i64 (eh s i).a2,.int .i64 (eh s i).a3,.int .i64 (eh s i).b1,.int .i64 (eh s i).b2,.int .i64 (eh s i).b3],.bool true]) (i+aS s i)):=by
 have hc:=yq s b i w hB hr
 rw[FK h,h] at hc
 exact hc
theorem Ec (s:ByteArray)(b i:Nat)(w:World)(hB:s.size≤400∧i≤400)(hr:Rd w b s i)(h:cT s i=false):
  Calls Tryz.prog 142 #[.pointer (some ⟨b,0,none⟩)] w (RP w b s (.tuple #[.agg #[.int .i64 (uC s i).k,.int .i64 (uC s i).c,.int .i64 (uC s i).a1,.int .i64 (uC s i).a2,.int .i64 (uC s i).a3,.int .i64 (uC s i).b1,.int .i64 (uC s i).b2,.int .i64 (uC s i).b3],.bool false]) (i+aS s i)):=by
 have hc:=yq s b i w hB hr
 rw[h] at hc
 exact hc
structure FX (s:ByteArray)(M:Nat→List Nat→Nat→Bool→Prop):Prop where
 out:∀ i,¬i<s.size→M i [] i false
 bad:∀ i,i<s.size→cT s i=false→M i [] (i+aS s i) false
 last:∀ i,i<s.size→cT s i=true→bt s (i+aS s i)=59→M i [i] (i+aS s i+1) true
 stray:∀ i,i<s.size→cT s i=true→¬bt s (i+aS s i)=59→¬bt s (i+aS s i)=44→M i [i] (i+aS s i) false
 next:∀ i L j ok,i<s.size→cT s i=true→bt s (i+aS s i)=44→M (i+aS s i+1) L j ok→M i (i::L) j ok
def jY (s:ByteArray)(i:Nat)(L:List Nat)(j:Nat)(ok:Bool):Prop:=∀ M,FX s M→M i L j ok
theorem jY.out {s:ByteArray}{i:Nat}(h:¬i<s.size):jY s i [] i false:=fun _ c=>c.out i h
theorem jY.bad {s:ByteArray}{i:Nat}(h:i<s.size)(h1:cT s i=false):jY s i [] (i+aS s i) false:=fun _ c=>c.bad i h h1
theorem jY.last {s:ByteArray}{i:Nat}(h:i<s.size)(h1:cT s i=true)(h2:bt s (i+aS s i)=59):jY s i [i] (i+aS s i+1) true:=fun _ c=>c.last i h h1 h2
theorem jY.stray {s:ByteArray}{i:Nat}(h:i<s.size)(h1:cT s i=true)(h2:¬bt s (i+aS s i)=59)(h3:¬bt s (i+aS s i)=44):jY s i [i] (i+aS s i) false:=fun _ c=>c.stray i h h1 h2 h3
theorem jY.next {s:ByteArray}{i:Nat}{L:List Nat}{j:Nat}{ok:Bool}(h:i<s.size)(h1:cT s i=true)(h2:bt s (i+aS s i)=44)(h3:jY s (i+aS s i+1) L j ok):jY s i (i::L) j ok:=fun M c=>c.next i L j ok h h1 h2 (h3 M c)
theorem jY.ind {s:ByteArray}{M:Nat→List Nat→Nat→Bool→Prop}(out:∀ i,¬i<s.size→M i [] i false)(bad:∀ i,i<s.size→cT s i=false→M i [] (i+aS s i) false)
  (last:∀ i,i<s.size→cT s i=true→bt s (i+aS s i)=59→M i [i] (i+aS s i+1) true)
  (stray:∀ i,i<s.size→cT s i=true→¬bt s (i+aS s i)=59→¬bt s (i+aS s i)=44→M i [i] (i+aS s i) false)
  (next:∀ i L j ok,i<s.size→cT s i=true→bt s (i+aS s i)=44→jY s (i+aS s i+1) L j ok→M (i+aS s i+1) L j ok→M i (i::L) j ok)
  {i:Nat} {L:List Nat} {j:Nat} {ok:Bool} (h:jY s i L j ok):M i L j ok:=
 (h (fun i L j ok=>jY s i L j ok∧M i L j ok) ⟨fun i h=>⟨.out h,out i h⟩,fun i h h1=>⟨.bad h h1,bad i h h1⟩,fun i h h1 h2=>⟨.last h h1 h2,last i h h1 h2⟩,fun i h h1 h2 h3=>⟨.stray h h1 h2 h3,stray i h h1 h2 h3⟩,fun i L j ok h h1 h2 h3=>⟨.next h h1 h2 h3.1,next i L j ok h h1 h2 h3.1 h3.2⟩⟩).2
def dU (s:ByteArray)(L:List Nat):List Value:=L.flatMap fun p=>[.int .i64 (eh s p).k,.int .i64 (eh s p).c,.int .i64 (eh s p).a1,.int .i64 (eh s p).a2,.int .i64 (eh s p).a3,.int .i64 (eh s p).b1,.int .i64 (eh s p).b2,.int .i64 (eh s p).b3]
theorem rC (s:ByteArray)(L:List Nat)(i':Nat):dU s (L++[i'])=dU s L++[.int .i64 (eh s i').k,.int .i64 (eh s i').c,.int .i64 (eh s i').a1,.int .i64 (eh s i').a2,.int .i64 (eh s i').a3,.int .i64 (eh s i').b1,.int .i64 (eh s i').b2,.int .i64 (eh s i').b3]:=by simp[dU]
theorem Tryz.info219:(Tryz.prog.info? 219).map (fun i=>(i.zero,i.size,i.bytes))=some (some (.agg #[.int .i64 0,.int .i64 0,.int .i64 0,.int .i64 0,.int .i64 0,.int .i64 0,.int .i64 0,.int .i64 0]),8,64):=by kernel_rfl
def Ez (w:World)(b:Nat)(s:ByteArray)(i:Nat)(e:Ending)(w':World):Prop:=
 ∃ L j ok v,e=.returned (.tuple #[v,.bool ok])∧jY s i L j ok∧(ok=true→w'.ownsRow w.heap.size 219 8 v L.length (dU s L))∧(ok=false→v=.slice none 0 0)∧j≤400∧Rd w' b s j∧w.grownBy w' (some b)
theorem t4 (s:ByteArray)(b i:Nat)(w:World)(hB:s.size≤400∧i≤400)(hr:Rd w b s i):
  Calls Tryz.prog 125 #[.pointer (some ⟨b,0,none⟩)] w (Ez w b s i):=by
 have hs:=hB.1
 have hl:=hr.lt
 obtain⟨i0,hi0,hz0,hz1,hz2⟩:=info_parts Tryz.info219
 go_enter Tryz.func125,Tryz.ntmps125
 go_wp2_with fail
 go_loopw [4] (fun v wr=>∃ (L0:List Nat) (i':Nat),Rd wr b s i'∧i'≤400∧i'≤s.size+i∧L0.length≤i'∧wr.ownsRow w.heap.size 219 8 v L0.length (dU s L0)∧w.grownBy wr (some b)∧(∀ L j ok,jY s i' L j ok→jY s i (L0++L) j ok))
  (fun _ wr=>400 - tY wr b)
 case atStart=>exact⟨[],i,hr,hB.2,by omega,Nat.zero_le _,World.ownsRow_nil _ _ _ _,ag _ _,fun L j ok h=>h⟩
 case round=>
  obtain⟨L0,i',hr0,hi4,hi5,hL0,hown,hg0,HC⟩:=hrel
  have c0:=hr0.c0
  have c1:=hr0.c1
  have hB':s.size≤400∧i'≤400:=⟨hs,hi4⟩
  have HC':=af HC
  clear HC
  by_cases hlt:i'<s.size
  ·by_cases hok:cT s i'=true
   ·go_wp2_with fail
    go_quiet ((fail))
    go_wp2_with fail
    go_at_call 142
    refine (Fz s b i' _ hB' (hr0.drewN _) hok).mono ?_
    rintro e w2 ⟨rfl,hr2,hg2⟩
    replace hg2:=cF hg2
    have hown2:=hown.kept hg2 (.inr (gR hown hl))
    have hsz:=hg0.size
    have hsz2:=hg2.size
    go_wp2_with (first|(at_builtin;refine wpList_append_own _ rfl (.tmp 24) (.tmp 26) 167 rfl (w.heap.size) 219 i0 (.agg #[.int .i64 0,.int .i64 0,.int .i64 0,.int .i64 0,.int .i64 0,.int .i64 0,.int .i64 0,.int .i64 0]) 8 64 Tryz.underlying167 hi0 hz0 hz1 hz2 rfl (by decide) _ _ _ rfl ((hown2.alloc _).alloc _) _ 1 1 [.int .i64 (eh s i').k,.int .i64 (eh s i').c,.int .i64 (eh s i').a1,.int .i64 (eh s i').a2,.int .i64 (eh s i').a3,.int .i64 (eh s i').b1,.int .i64 (eh s i').b2,.int .i64 (eh s i').b3] rfl rfl ?c1 ?c2 ?c3 ?c4 ?c5 ?_))
    case c1=>
     intro j u hj
     exact nu hj
    case c2=>intro u hu;simp at hu;rcases hu with h|h|h|h|h|h|h|h <;> subst h <;> rfl
    case c3=>unfold maxLen;omega
    case c4=>omega
    case c5=>simp;omega
    ·intro v' w3 hown3 hg3 _
     have hbd:=mV hlt
     have hown3':w3.ownsRow w.heap.size 219 8 v' (L0++[i']).length (dU s (L0++[i'])):=by rw[rC];simpa using hown3
     have hr3:Rd w3 b s (i'+aS s i'):=(hg3.block b (by have:=hr2.lt;simp;omega) (fun e=>gR hown hl e.symm)).trans ((hr2.alloc _).alloc _)
     have hg3':w.grownBy w3 (some b):=nJ (ab (ab (ae hg0 hg2) _) _) hg3 (fun g hg=>(hown.lt g hg).1)
     clear hown3 hg3 hown2 hown hg2 hr2 hg0 c0 c1
     obtain⟨j,hj⟩:∃ j,j=i'+aS s i':=⟨_,rfl⟩
     have hB3:s.size≤400∧j≤400:=by omega
     rw[←hj] at hr3
     have hlen:(L0++[i']).length≤j+1:=by simp;omega
     by_cases h62:bt s j=59
     ·have HN:Hid (jY s i (L0++[i']) (j+1) true):=af (by have:=HC'.out _ _ _ (.last hlt hok (by rw[←hj];exact h62));rw[←hj] at this;exact this)
      have hj1:=dg (s:=s) (i:=j) (by omega)
      clear hj
      have H62:=af h62
      clear h62
      go_wp2_with fail
      go_at_call 123
      refine (eP s b j _ hB3 hr3 59 H62.out).mono ?_
      rintro e w4 ⟨rfl,hr4,hg4⟩
      have hown4:=hown3'.kept hg4 (.inr (gR hown3' hl))
      go_wp2
      go_ret2
      exact⟨L0++[i'],j+1,true,v',rfl,HN.out,(fun _=>hown4),(fun h=>by cases h),by omega,hr4,ae hg3' hg4⟩
     ·have H62:=af h62
      by_cases h44:bt s j=44
      ·have HN:Hid (∀ L j' ok,jY s (j+1) L j' ok→jY s i ((L0++[i'])++L) j' ok):=af (by
        intro L j' ok hn
        have:=HC'.out _ _ _ (.next hlt hok (by rw[←hj];exact h44) (by rw[←hj];exact hn))
        simpa using this)
       have hj1:=dg (s:=s) (i:=j) (by omega)
       have hji:i'<j+1:=by omega
       clear hj
       have H44:=af h44
       clear h62 h44
       go_wp2_with fail
       go_at_call 123
       refine (dl s b j _ hB3 hr3 59 H62.out).mono ?_
       rintro e w4 ⟨rfl,hr4,hg4⟩
       have hown4:=hown3'.kept hg4 (.inr (gR hown3' hl))
       have hg4':=ae hg3' hg4
       clear hown3' hg4 hg3'
       go_wp2_with fail
       go_at_call 123
       refine (eP s b j _ hB3 hr4 44 H44.out).mono ?_
       rintro e w5 ⟨rfl,hr5,hg5⟩
       have hown5:=hown4.kept hg5 (.inr (gR hown4 hl))
       have hg5':=ae hg4' hg5
       have hp0:=af (jQ hr0)
       have hp5:=af (jQ hr5)
       clear hown4 hg5 hg4' hr0
       go_wp2
       go_roundw
       case rel=>exact⟨L0++[i'],j+1,hr5,by omega,by omega,hlen,hown5,hg5',HN.out⟩
       case measure=>rw[hp0.out,hp5.out];omega
      ·have HN:Hid (jY s i (L0++[i']) j false):=af (by have:=HC'.out _ _ _ (.stray hlt hok (by rw[←hj];exact h62) (by rw[←hj];exact h44));rw[←hj] at this;exact this)
       clear hj
       have H44:=af h44
       clear h62 h44
       go_wp2_with fail
       go_at_call 123
       refine (dl s b j _ hB3 hr3 59 H62.out).mono ?_
       rintro e w4 ⟨rfl,hr4,hg4⟩
       have hg4':=ae hg3' hg4
       clear hown3' hg4 hg3'
       go_wp2_with fail
       go_at_call 123
       refine (dl s b j _ hB3 hr4 44 H44.out).mono ?_
       rintro e w5 ⟨rfl,hr5,hg5⟩
       have hg5':=ae hg4' hg5
       clear hg5 hg4'
       go_wp2
       go_ret2
       exact⟨L0++[i'],j,false,.slice none 0 0,rfl,HN.out,(fun h=>by cases h),(fun _=>rfl),by omega,hr5,hg5'⟩
   ·have hok:cT s i'=false:=by simpa using hok
    go_wp2_with fail
    go_quiet ((fail))
    go_wp2_with fail
    go_at_call 142
    refine (Ec s b i' _ hB' (hr0.drewN _) hok).mono ?_
    rintro e w2 ⟨rfl,hr2,hg2⟩
    replace hg2:=cF hg2
    have hbd:=mV hlt
    go_wp2
    go_ret2
    exact⟨L0++[],i'+aS s i',false,.slice none 0 0,rfl,HC'.out _ _ _ (.bad hlt hok),(fun h=>by cases h),(fun _=>rfl),by omega,hr2.alloc _,ab (ae hg0 hg2) _⟩
  ·go_wp2_with fail
   go_quiet ((fail))
   go_wp2
   go_ret2
   exact⟨L0++[],i',false,.slice none 0 0,rfl,HC'.out _ _ _ (.out hlt),(fun h=>by cases h),(fun _=>rfl),hi4,hr0.drewN _,al hg0 _⟩
theorem an {w:World}{base:Nat}{e:TypeId}{size:Nat}{v:Value}{n:Nat}{xs:List Value}(h:w.ownsRow base e size v n xs):∃ a m c,v=.slice a m c:=by
 rcases h.2 with ⟨rfl,_⟩|⟨g,cap,cur,rfl,_⟩
 ·exact⟨_,_,_,rfl⟩
 ·exact⟨_,_,_,rfl⟩
theorem bP {w:World}{base base':Nat}{e:TypeId}{size:Nat}{v:Value}{n:Nat}{xs:List Value}(h:w.ownsRow base e size v n xs)(hb:base'≤base):w.ownsRow base' e size v n xs:=by
 rcases h with ⟨h1,h2⟩
 refine⟨h1,?_⟩
 rcases h2 with h2|⟨g,cap,cur,e1,e2,e3⟩
 ·exact .inl h2
 ·exact .inr ⟨g,cap,cur,e1,by omega,e3⟩
def q8 (s:ByteArray)(i:Nat)(L K:List Nat)(j:Nat)(ok:Bool):Prop:=
 (bN (bt s i)=false∧L=[]∧K=[]∧j=i∧ok=false)∨
 (bN (bt s i)=true∧¬bt s (i+1)=58∧L=[]∧K=[]∧j=i+1∧ok=false)∨
 (bN (bt s i)=true∧bt s (i+1)=58∧jA s (i+2) L j false∧K=[]∧ok=false)∨
 (∃ j1,bN (bt s i)=true∧bt s (i+1)=58∧jA s (i+2) L j1 true∧jY s j1 K j ok)
theorem q8.weight {s:ByteArray}{i:Nat}(h:bN (bt s i)=false):q8 s i [] [] i false:=.inl ⟨h,rfl,rfl,rfl,rfl⟩
theorem q8.colon {s:ByteArray}{i:Nat}(h:bN (bt s i)=true)(h1:¬bt s (i+1)=58):q8 s i [] [] (i+1) false:=.inr (.inl ⟨h,h1,rfl,rfl,rfl,rfl⟩)
theorem q8.conds {s:ByteArray}{i:Nat}{L:List Nat}{j:Nat}(h:bN (bt s i)=true)(h1:bt s (i+1)=58)(h2:jA s (i+2) L j false):q8 s i L [] j false:=.inr (.inr (.inl ⟨h,h1,h2,rfl,rfl⟩))
theorem q8.acts {s:ByteArray}{i:Nat}{L K:List Nat}{j j':Nat}{ok:Bool}(h:bN (bt s i)=true)(h1:bt s (i+1)=58)(h2:jA s (i+2) L j true)(h3:jY s j K j' ok):q8 s i L K j' ok:=.inr (.inr (.inr ⟨j,h,h1,h2,h3⟩))
theorem q8.yes {s:ByteArray}{i:Nat}{L K:List Nat}{j:Nat}(h:q8 s i L K j true):∃ j1,bN (bt s i)=true∧bt s (i+1)=58∧jA s (i+2) L j1 true∧jY s j1 K j true:=by
 rcases h with ⟨_,_,_,_,e⟩|⟨_,_,_,_,_,e⟩|⟨_,_,_,_,e⟩|h
 ·cases e
 ·cases e
 ·cases e
 ·exact h
def EX (w:World)(b:Nat)(s:ByteArray)(i:Nat)(e:Ending)(w':World):Prop:=
 ∃ L K j ok x a1 m1 c1 a2 m2 c2,e=.returned (.tuple #[.agg #[.int .i64 x,.slice a1 m1 c1,.slice a2 m2 c2],.bool ok])∧q8 s i L K j ok∧
   (ok=true→x=bt s i - 48∧w'.ownsRow w.heap.size 206 7 (.slice a1 m1 c1) L.length (dq s L)∧w'.ownsRow w.heap.size 219 8 (.slice a2 m2 c2) K.length (dU s K))∧j≤400∧Rd w' b s j∧w.grownBy w' (some b)
theorem uL {w:World}{base:Nat}{e:TypeId}{size:Nat}{v:Value}{n:Nat}{xs:List Value}{g:Nat}{cs:Array Value}{t:TypeId}{x y z:Value}
  (h:w.ownsRow base e size v n xs) (hk:w.heap[g]?=some (.cells cs t (0,0))) (ht:e≠t) :
  (((w.setCell ⟨g,0,none⟩ x).setCell ⟨g,1,none⟩ y).setCell ⟨g,2,none⟩ z).ownsRow base e size v n xs:=by
 have hne:v.ownBlock≠some g:=by
  rcases h.2 with ⟨rfl,_⟩|⟨g',cap,cur,rfl,_,hh,_⟩
  ·simp[Value.ownBlock]
  ·intro hx
   simp[Value.ownBlock] at hx
   subst hx
   rw[hh] at hk
   simp at hk
   exact ht hk.2
 exact ownsRow_setCell_other (ownsRow_setCell_other (ownsRow_setCell_other h hne _) hne _) hne _
theorem CQ (s:ByteArray)(b i:Nat)(w:World)(hB:s.size≤400∧i≤400)(hr:Rd w b s i):
  Calls Tryz.prog 101 #[.pointer (some ⟨b,0,none⟩)] w (EX w b s i):=by
 have hs:=hB.1
 have hl:=hr.lt
 have hne:w.heap.size≠b:=by omega
 by_cases h0:bN (bt s i)=true
 ·have hlt:=dg (s:=s) (i:=i) (by intro hx;rw[hx] at h0;exact absurd h0 (by decide))
  by_cases h1:bt s (i+1)=58
  ·have hlt1:=dg (s:=s) (i:=i+1) (by omega)
   replace h1:=af h1
   go_enter Tryz.func101,Tryz.ntmps101
   go_wp2_with fail
   go_at_call 122
   refine (lX s b i _ hB (hr.alloc _) h0).mono ?_
   rintro e w1 ⟨rfl,hr1,hg1⟩
   obtain⟨⟨hc1,hf1⟩,hn1,hzw1,hyw1,hxw1,hk1⟩:=nx hr1 hg1 (by omega)
   go_wp2_with fail
   go_at_call 123
   refine (eP s b (i+1) _ ⟨hs,by omega⟩ (by with_reducible repeat' (first|assumption|refine Rd.alloc ?_ _|refine Rd.drewN ?_ _|refine Rd.step ?_|refine Rd.other ?_ ?_ _|(simp;omega))) 58 h1.out).mono ?_
   rintro e w2 ⟨rfl,hr2,hg2⟩
   obtain⟨hc2,hf2⟩:=cM hg2
   have hn2:w2.heap.size≠b:=by have:=hr2.lt;omega
   have hzw2:w.heap.size<w2.heap.size:=by have:=hg2.size;(try simp at this);omega
   have hyw2:=Nat.le_of_lt hzw2
   have hxw2:=Nat.ne_of_lt hzw2
   have hk2:=af ((hg2.block w.heap.size (by (try simp);omega) (by simp;omega)).trans hk1.out)
   go_wp2_with fail
   go_at_call 124
   refine (qb s b (i+2) _ ⟨hs,by omega⟩ (by with_reducible repeat' (first|assumption|refine Rd.alloc ?_ _|refine Rd.drewN ?_ _|refine Rd.step ?_|refine Rd.other ?_ ?_ _|(simp;omega)))).mono ?_
   rintro e w3 ⟨L,j,ok,v,rfl,hcds,hown3,hnil3,hj3,hr3,hg3⟩
   obtain⟨hc3,hf3⟩:=cM hg3
   have hzw3:w.heap.size<w3.heap.size:=by have:=hg3.size;(try simp at this);omega
   have hk3:=af ((hg3.block w.heap.size (by (try simp);omega) (by simp;omega)).trans hk2.out)
   cases ok
   ·replace hnil3:=hnil3 rfl
    subst hnil3
    go_wp2
    refine bodyPost_ret (v:=.tuple #[.agg #[.int .i64 0,.slice none 0 0,.slice none 0 0],.bool false]) (aO Tryz.results101 rfl (bk 2 (bk 1 (bk 0 hk3.out))) Tryz.underlying169 rfl (by kernel_rfl) rfl) rfl ?_
    refine⟨L,[],j,false,_,_,_,_,_,_,_,rfl,.conds h0 h1.out hcds,(fun h=>by cases h),hj3,?_,?_⟩
    ·with_reducible repeat' (first|assumption|refine Rd.alloc ?_ _|refine Rd.drewN ?_ _|refine Rd.step ?_|refine Rd.other ?_ ?_ _|(simp;omega))
    ·with_reducible repeat' (first|assumption|exact ag _ _|refine aj ?_ ?_ _|refine ab ?_ _|refine al ?_ _|refine ae ?_ (by assumption)|(right;simp;done)|(right;simp;omega)|(left;rfl))
   ·replace hown3:=hown3 rfl
    obtain⟨a1,m1,k1,rfl⟩:=an hown3
    go_wp2_with fail
    go_at_call 125
    refine (t4 s b j _ ⟨hs,hj3⟩ hr3).mono ?_
    rintro e w4 ⟨K,j',ok,v,rfl,hacs,hown4,hnil4,hj4,hr4,hg4⟩
    obtain⟨hc4,hf4⟩:=cM hg4
    have hzw4:w.heap.size<w4.heap.size:=by have:=hg4.size;(try simp at this);omega
    have hk4:=af ((hg4.block w.heap.size hzw3 (by simp;omega)).trans hk3.out)
    have hown34:w4.ownsRow w.heap.size 206 7 (.slice a1 m1 k1) L.length (dq s L):=bP (hown3.kept hg4 (.inr (gR hown3 (by have:=hr2.lt;omega)))) (by omega)
    have hsh:∃ a2 m2 k2,v=.slice a2 m2 k2:=by
     cases ok
     ·exact⟨_,_,_,hnil4 rfl⟩
     ·exact an (hown4 rfl)
    obtain⟨a2,m2,k2,rfl⟩:=hsh
    go_wp2
    refine bodyPost_ret (v:=.tuple #[.agg #[.int .i64 (bt s i - 48),.slice a1 m1 k1,.slice a2 m2 k2],.bool ok]) (aO Tryz.results101 rfl (bk 2 (bk 1 (bk 0 hk4.out))) Tryz.underlying169 rfl (by kernel_rfl) rfl) rfl ?_
    refine⟨L,K,j',ok,_,_,_,_,_,_,_,rfl,.acts h0 h1.out hcds hacs,(fun h=>⟨rfl,?_,?_⟩),hj4,?_,?_⟩
    ·exact uL hown34 hk4.out (by decide)
    ·exact uL (bP (hown4 h) (by omega)) hk4.out (by decide)
    ·with_reducible repeat' (first|assumption|refine Rd.alloc ?_ _|refine Rd.drewN ?_ _|refine Rd.step ?_|refine Rd.other ?_ ?_ _|(simp;omega))
    ·with_reducible repeat' (first|assumption|exact ag _ _|refine aj ?_ ?_ _|refine ab ?_ _|refine al ?_ _|refine ae ?_ (by assumption)|(right;simp;done)|(right;simp;omega)|(left;rfl))
  ·replace h1:=af h1
   go_enter Tryz.func101,Tryz.ntmps101
   go_wp2_with fail
   go_at_call 122
   refine (lX s b i _ hB (hr.alloc _) h0).mono ?_
   rintro e w1 ⟨rfl,hr1,hg1⟩
   obtain⟨⟨hc1,hf1⟩,hn1,hzw1,hyw1,hxw1,hk1⟩:=nx hr1 hg1 (by omega)
   go_wp2_with fail
   go_at_call 123
   refine (dl s b (i+1) _ ⟨hs,by omega⟩ (by with_reducible repeat' (first|assumption|refine Rd.alloc ?_ _|refine Rd.drewN ?_ _|refine Rd.step ?_|refine Rd.other ?_ ?_ _|(simp;omega))) 58 h1.out).mono ?_
   rintro e w2 ⟨rfl,hr2,hg2⟩
   obtain⟨hc2,hf2⟩:=cM hg2
   have hn2:w2.heap.size≠b:=by have:=hr2.lt;omega
   have hzw2:w.heap.size<w2.heap.size:=by have:=hg2.size;(try simp at this);omega
   have hyw2:=Nat.le_of_lt hzw2
   have hxw2:=Nat.ne_of_lt hzw2
   have hk2:=af ((hg2.block w.heap.size (by (try simp);omega) (by simp;omega)).trans hk1.out)
   go_wp2
   refine bodyPost_ret (v:=.tuple #[.agg #[.int .i64 0,.slice none 0 0,.slice none 0 0],.bool false]) (aO Tryz.results101 rfl (bk 2 (bk 1 (bk 0 hk2.out))) Tryz.underlying169 rfl (by kernel_rfl) rfl) rfl ?_
   refine⟨[],[],i+1,false,_,_,_,_,_,_,_,rfl,.colon h0 h1.out,(fun h=>by cases h),by omega,?_,?_⟩
   ·with_reducible repeat' (first|assumption|refine Rd.alloc ?_ _|refine Rd.drewN ?_ _|refine Rd.step ?_|refine Rd.other ?_ ?_ _|(simp;omega))
   ·with_reducible repeat' (first|assumption|exact ag _ _|refine aj ?_ ?_ _|refine ab ?_ _|refine al ?_ _|refine ae ?_ (by assumption)|(right;simp;done)|(right;simp;omega)|(left;rfl))
 ·have h0:bN (bt s i)=false:=by simpa using h0
  go_enter Tryz.func101,Tryz.ntmps101
  go_wp2_with fail
  go_at_call 122
  refine (n7 s b i _ hB (hr.alloc _) h0).mono ?_
  rintro e w1 ⟨rfl,hr1,hg1⟩
  obtain⟨⟨hc1,hf1⟩,hn1,hzw1,hyw1,hxw1,hk1⟩:=nx hr1 hg1 (by omega)
  go_wp2
  refine bodyPost_ret (v:=.tuple #[.agg #[.int .i64 0,.slice none 0 0,.slice none 0 0],.bool false]) (aO Tryz.results101 rfl (bk 2 (bk 1 (bk 0 hk1.out))) Tryz.underlying169 rfl (by kernel_rfl) rfl) rfl ?_
  refine⟨[],[],i,false,_,_,_,_,_,_,_,rfl,.weight h0,(fun h=>by cases h),hB.2,?_,?_⟩
  ·with_reducible repeat' (first|assumption|refine Rd.alloc ?_ _|refine Rd.drewN ?_ _|refine Rd.step ?_|refine Rd.other ?_ ?_ _|(simp;omega))
  ·with_reducible repeat' (first|assumption|exact ag _ _|refine aj ?_ ?_ _|refine ab ?_ _|refine al ?_ _|refine ae ?_ (by assumption)|(right;simp;done)|(right;simp;omega)|(left;rfl))
end Go.Proofs.YthlhbjnkohinmaaGreat
