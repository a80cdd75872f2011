import Derived.Test.YthlhbjnkohinmabGreatProg
import Derived.Test.YthlhbjnkohinmabGreatP00
import Derived.WalkKit
import Derived.WalkSpells
import Derived.WalkLawsBesides
import Derived.Test.YthlhbjnkohinmabGreatP05
import Derived.Lib.Strings
namespace Go.Proofs.YthlhbjnkohinmabGreat
set_option maxRecDepth 100000
set_option maxHeartbeats 8000000
open Go.RowKit
theorem eW (c:Int)(w:World)(h0:0≤c)(h1:c≤255):
  Calls Tryz.prog 41 #[.int .u8 c] w fun e w'=>e=.returned (.bool (bM c))∧w=w':=by
 go_enter Tryz.func41,Tryz.ntmps41
 go_wp2
 all_goals
  go_ret
  exact⟨c7 (by simp[bM];omega),rfl⟩
theorem pI (c:Int)(w:World)(h0:0≤c)(h1:c≤255):
  Calls Tryz.prog 124 #[.int .u8 c] w fun e w'=>e=.returned (.bool (eA c))∧w=w':=by
 go_enter Tryz.func124,Tryz.ntmps124
 go_wp2
 all_goals
  go_ret
  exact⟨c7 (by simp[eA];omega),rfl⟩
theorem gQ (c:Int)(w:World)(h0:0≤c)(h1:c≤255):
  Calls Tryz.prog 40 #[.int .u8 c] w fun e w'=>e=.returned (.bool (aU c))∧w=w':=by
 go_enter Tryz.func40,Tryz.ntmps40
 go_wp2
 all_goals
  go_ret
  exact⟨c7 (by simp[aU];omega),rfl⟩
theorem mS (c:Int)(w:World)(_h0:0≤c)(_h1:c≤255):
  Calls Tryz.prog 114 #[.int .u8 c] w fun e w'=>e=.returned (.bool (ff c))∧w=w':=by
 go_enter Tryz.func114,Tryz.ntmps114
 go_wp2
 all_goals
  go_ret
  exact⟨c7 (by simp[ff, *]),rfl⟩
theorem l5 (c:Int)(w:World)(h0:0≤c)(h1:c≤255):
  Calls Tryz.prog 122 #[.int .u8 c] w fun e w'=>e=.returned (.bool (bg c))∧w=w':=by
 go_enter Tryz.func122,Tryz.ntmps122
 go_wp2_with (first|(go_at_call 41;refine (eW _ _ (by omega) (by omega)).mono ?_;rintro e w' ⟨rfl,rfl⟩)|(go_at_call 124;refine (pI _ _ (by omega) (by omega)).mono ?_;rintro e w' ⟨rfl,rfl⟩))
 all_goals
  go_ret
  exact⟨c7 (by simp[bg, *]),rfl⟩
theorem CW (c:Int)(w:World)(h0:0≤c)(h1:c≤255):
  Calls Tryz.prog 123 #[.int .u8 c] w fun e w'=>e=.returned (.bool (c8 c))∧w=w':=by
 go_enter Tryz.func123,Tryz.ntmps123
 go_wp2_with (go_at_call 122;refine (l5 _ _ (by omega) (by omega)).mono ?_;rintro e w' ⟨rfl,rfl⟩)
 all_goals
  go_ret
  exact⟨c7 (by simp[c8, *]),rfl⟩
theorem zZ (q c:Int)(w:World)(h0:0≤c)(h1:c≤255)(hq0:0≤q)(hq:q≤8):
  Calls Tryz.prog 98 #[.int .i64 q,.int .u8 c] w fun e w'=>e=.returned (.int .i64 (b8 q c))∧w=w':=by
 go_enter Tryz.func98,Tryz.ntmps98
 go_wp2_with (first|(go_at_call 41;refine (eW _ _ (by omega) (by omega)).mono ?_;rintro e w' ⟨rfl,rfl⟩)|(go_at_call 40;refine (gQ _ _ (by omega) (by omega)).mono ?_;rintro e w' ⟨rfl,rfl⟩)|(go_at_call 122;refine (l5 _ _ (by omega) (by omega)).mono ?_;rintro e w' ⟨rfl,rfl⟩)|(go_at_call 123;refine (CW _ _ (by omega) (by omega)).mono ?_;rintro e w' ⟨rfl,rfl⟩))
 all_goals
  go_ret
  refine⟨j4 ?_,rfl⟩
  simp_all [b8]
theorem BX (q c:Int)(w:World)(h0:0≤c)(h1:c≤255)(hq0:9≤q)(hq:q≤17):
  Calls Tryz.prog 99 #[.int .i64 q,.int .u8 c] w fun e w'=>e=.returned (.int .i64 (dP q c))∧w=w':=by
 go_enter Tryz.func99,Tryz.ntmps99
 go_wp2_with (first|(go_at_call 114;refine (mS _ _ (by omega) (by omega)).mono ?_;rintro e w' ⟨rfl,rfl⟩)|(go_at_call 40;refine (gQ _ _ (by omega) (by omega)).mono ?_;rintro e w' ⟨rfl,rfl⟩)|(go_at_call 122;refine (l5 _ _ (by omega) (by omega)).mono ?_;rintro e w' ⟨rfl,rfl⟩))
 all_goals
  go_ret
  refine⟨j4 ?_,rfl⟩
  simp_all [dP]
def fQ (s:ByteArray):Nat→Int→Nat→Int
 |0,q,_=>q
 |n+1,q,i=>fQ s n (ba q (bt s i)) (i+1)
theorem i7 (s:ByteArray):∀ (m n:Nat) (q:Int) (i:Nat),fQ s (m+n) q i=fQ s n (fQ s m q i) (i+m)
 |0,n,q,i=>by simp[fQ]
 |m+1,n,q,i=>by
  rw[show m+1+n=(m+n)+1 by omega]
  simp only[fQ]
  rw[i7 s m n,show i+1+m=i+(m+1) by omega]
theorem iH (s:ByteArray)(n:Nat)(q:Int)(i:Nat):fQ s (n+1) q i=ba (fQ s n q i) (bt s (i+n)):=by
 rw[i7 s n 1];rfl
theorem uX (q c:Int):-1≤ba q c∧ba q c≤17:=by
 unfold ba b8 dP
 repeat' split
 all_goals omega
def pY (s:ByteArray)(p:Int):Prop:=
 (p=-1∧fQ s s.size 0 0=0)∨∃ k:Nat,p=k∧k≤s.size∧0≤fQ s k 0 0∧(k<s.size→ba (fQ s k 0 0) (bt s k)=-1)∧(k=s.size→fQ s k 0 0≠0)
theorem sr (s:ByteArray)(w:World)(hs:s.size≤400):
  Calls Tryz.prog 70 #[.string s] w fun e w'=>∃ p,e=.returned (.int .i64 p)∧pY s p∧w=w':=by
 go_enter Tryz.func70,Tryz.ntmps70
 go_wp2_with fail
 go_loop [3,4] (fun t i=>∃ k:Nat,k≤s.size∧i=.int .i64 k∧t=.int .i64 (fQ s k 0 0)∧0≤fQ s k 0 0) (fun _ i=>s.size - (intOf i).toNat)
 case atStart=>exact⟨0,Nat.zero_le _,rfl,rfl,by simp[fQ]⟩
 case round=>
  obtain⟨k,hk,rfl,rfl,hq0⟩:=hrel
  by_cases hlt:k<s.size
  ·have HS:=af (iH s k 0 0)
   rw[Nat.zero_add] at HS
   have hq17:fQ s k 0 0≤17:=by
    cases k with
    |zero=>simp[fQ]
    |succ k=>rw[iH];exact (uX _ _).2
   have hbt:=bh hlt
   have hb:=bY s k
   have HB:=af hbt
   rw[hbt] at hb
   clear hbt
   have hnx:=uX (fQ s k 0 0) (bt s k)
   have HF:Hid (ba (fQ s k 0 0) (bt s k)=if fQ s k 0 0<9 then b8 (fQ s k 0 0) (s[k].toNat:Int) else dP (fQ s k 0 0) (s[k].toNat:Int)):=af (by rw[HB.out];rfl)
   obtain⟨q,hq⟩:∃ q,q=fQ s k 0 0:=⟨_,rfl⟩
   obtain⟨nx,hnxe⟩:∃ nx,nx=ba q (bt s k):=⟨_,rfl⟩
   rw[←hq] at HS HF hq0 hq17 hnx ⊢
   rw[←hnxe] at HS HF hnx
   have HNX:=af hnxe
   have HQ:=af hq
   clear hnxe hq
   by_cases h9:q<9
   ·have HC:Hid (b8 q (s[k].toNat:Int)=nx):=af (by rw[HF.out,if_pos h9])
    have HCC:=af (fun W=>zZ q (s[k].toNat:Int) W hb.1 hb.2 hq0 (by omega))
    rw[HC.out] at HCC
    by_cases hm:nx=-1
    ·subst hm
     go_wp2_with (go_at_call 98;refine (HCC.out _).mono ?_;rintro e w' ⟨rfl,rfl⟩)
     go_ret
     exact⟨_,rfl,.inr ⟨k,rfl,hk,by rw[←HQ.out];exact hq0,fun _=>by rw[←HQ.out,←HNX.out],fun h=>by omega⟩,rfl⟩
    ·have hm':(nx==-1)=false:=by simpa using hm
     go_wp2_with (go_at_call 98;refine (HCC.out _).mono ?_;rintro e w' ⟨rfl,rfl⟩)
     go_round
     case rel=>exact⟨k+1,by omega,by go_num,by rw[HS.out],by rw[HS.out];omega⟩
     case measure=>simp[intOf];omega
   ·have HC:Hid (dP q (s[k].toNat:Int)=nx):=af (by rw[HF.out,if_neg h9])
    have HCC:=af (fun W=>BX q (s[k].toNat:Int) W hb.1 hb.2 (by omega) hq17)
    rw[HC.out] at HCC
    by_cases hm:nx=-1
    ·subst hm
     go_wp2_with (go_at_call 99;refine (HCC.out _).mono ?_;rintro e w' ⟨rfl,rfl⟩)
     go_ret
     exact⟨_,rfl,.inr ⟨k,rfl,hk,by rw[←HQ.out];exact hq0,fun _=>by rw[←HQ.out,←HNX.out],fun h=>by omega⟩,rfl⟩
    ·have hm':(nx==-1)=false:=by simpa using hm
     go_wp2_with (go_at_call 99;refine (HCC.out _).mono ?_;rintro e w' ⟨rfl,rfl⟩)
     go_round
     case rel=>exact⟨k+1,by omega,by go_num,by rw[HS.out],by rw[HS.out];omega⟩
     case measure=>simp[intOf];omega
  ·have E:Hid (k=s.size):=af (by omega)
   by_cases h0:fQ s k 0 0=0
   ·have H0:=af h0
    rw[h0]
    clear h0
    go_wp2
    go_ret
    exact⟨_,rfl,.inl ⟨rfl,by rw[←E.out];exact H0.out⟩,rfl⟩
   ·have h0':(fQ s k 0 0 != 0)=true:=by simpa using h0
    go_wp2
    go_ret
    exact⟨_,rfl,.inr ⟨s.size,rfl,Nat.le_refl _,by rw[←E.out];exact hq0,fun h=>by omega,fun _=>by rw[←E.out];exact h0⟩,rfl⟩
def eh (s:ByteArray)(a b:Int):Nat→Nat→Nat→List (Nat×Nat)
 |0,_,_=>[]
 |n+1,f,i=>if bt s i=a∨bt s i=b then (f,i)::eh s a b n (i+1) (i+1) else eh s a b n f (i+1)
def lG (s:ByteArray)(l:List (Nat×Nat)):List Value:=l.map fun p=>.string (s.extract p.1 p.2)
theorem sA (s:ByteArray)(l:List (Nat×Nat))(f t:Nat):lG s (l++[(f,t)])=lG s l++[.string (s.extract f t)]:=by simp[lG]
theorem Tryz.info9:(Tryz.prog.info? 9).map (fun i=>(i.zero,i.size,i.bytes))=some (some (.string ByteArray.empty),1,16):=by kernel_rfl
theorem tU (s:ByteArray)(a b:Int)(w:World)(hs:s.size≤401)(_ha:0≤a∧a≤255)(_hb:0≤b∧b≤255):
  Calls Tryz.prog 100 #[.string s,.int .u8 a,.int .u8 b] w fun e w'=>∃ v,e=.returned v∧w'.ownsRow w.heap.size 9 1 v (eh s a b s.size 0 0).length (lG s (eh s a b s.size 0 0))∧w.grownBy w' none:=by
 obtain⟨i0,hi0,hz0,hz1,hz2⟩:=info_parts Tryz.info9
 go_enter Tryz.func100,Tryz.ntmps100
 go_wp2_with fail
 go_loopw [7,8,9] (fun v t i wr=>∃ (L0:List (Nat×Nat)) (f k:Nat),k≤s.size∧f≤k∧L0.length≤k∧i=.int .i64 k∧t=.int .i64 f∧wr.ownsRow w.heap.size 9 1 v L0.length (lG s L0)∧w.grownBy wr none∧L0++eh s a b (s.size - k) f k=eh s a b s.size 0 0) (fun _ _ i _=>s.size - (intOf i).toNat)
 case atStart=>exact⟨[],0,0,Nat.zero_le _,Nat.le_refl _,Nat.zero_le _,rfl,rfl,World.ownsRow_nil _ _ _ _,ag _ _,rfl⟩
 case round=>
  obtain⟨L0,f,k,hk,hf,hL,rfl,rfl,hown,hg,hcut⟩:=hrel
  have HC:=af hcut
  clear hcut
  by_cases hlt:k<s.size
  ·have HB:=af (bh hlt)
   have hbd:=bY s k
   have hsz:=hg.size
   rw[HB.out] at hbd
   have e:s.size - k=(s.size - (k+1))+1:=by omega
   rw[e] at HC
   by_cases hab:(s[k].toNat:Int)=a∨(s[k].toNat:Int)=b
   ·have HC':Hid ((L0++[(f,k)])++eh s a b (s.size - (k+1)) (k+1) (k+1)=eh s a b s.size 0 0):=af (by
     have:=HC.out
     rw[eh,if_pos (by rw[HB.out];exact hab)] at this
     simpa using this)
    by_cases h1:(s[k].toNat:Int)=a
    ·have q1:((s[k].toNat:Int)==a)=true:=by simpa using h1
     clear hab h1
     go_wp2_with (first|(at_builtin;refine wpList_append_own _ rfl (.tmp 28) (.tmp 33) 47 rfl (w.heap.size) 9 i0 (.string ByteArray.empty) 1 16 Tryz.underlying47 hi0 hz0 hz1 hz2 rfl (by decide) _ _ _ rfl (hown.alloc _) _ 1 1 [.string (s.extract f k)] rfl rfl ?c1 ?c2 ?c3 ?c4 ?c5 ?_))
     case c1=>intro j u hj;exact bj hj
     case c2=>intro u hu;simp at hu;subst hu;rfl
     case c3=>unfold maxLen;omega
     case c4=>omega
     case c5=>simp;omega
     ·intro v' w3 hown3 hg3 _
      have hown3':w3.ownsRow w.heap.size 9 1 v' (L0++[(f,k)]).length (lG s (L0++[(f,k)])):=by rw[sA];simpa using hown3
      have hg3':w.grownBy w3 none:=aL (ab hg _) hg3 (fun g hg=>(hown.lt g hg).1)
      have hl3:(L0++[(f,k)]).length≤k+1:=by simp;omega
      clear hown3 hg3 hown hg
      go_wp2
      go_roundw
      case rel=>exact⟨L0++[(f,k)],k+1,k+1,by omega,Nat.le_refl _,hl3,by go_num,by go_num,hown3',hg3',HC'.out⟩
      case measure=>simp[intOf];omega
    ·have q1:((s[k].toNat:Int)==a)=false:=by simpa using h1
     have q2:((s[k].toNat:Int)==b)=true:=by simpa [h1] using hab
     clear hab h1
     go_wp2_with (first|(at_builtin;refine wpList_append_own _ rfl (.tmp 28) (.tmp 33) 47 rfl (w.heap.size) 9 i0 (.string ByteArray.empty) 1 16 Tryz.underlying47 hi0 hz0 hz1 hz2 rfl (by decide) _ _ _ rfl (hown.alloc _) _ 1 1 [.string (s.extract f k)] rfl rfl ?c1 ?c2 ?c3 ?c4 ?c5 ?_))
     case c1=>intro j u hj;exact bj hj
     case c2=>intro u hu;simp at hu;subst hu;rfl
     case c3=>unfold maxLen;omega
     case c4=>omega
     case c5=>simp;omega
     ·intro v' w3 hown3 hg3 _
      have hown3':w3.ownsRow w.heap.size 9 1 v' (L0++[(f,k)]).length (lG s (L0++[(f,k)])):=by rw[sA];simpa using hown3
      have hg3':w.grownBy w3 none:=aL (ab hg _) hg3 (fun g hg=>(hown.lt g hg).1)
      have hl3:(L0++[(f,k)]).length≤k+1:=by simp;omega
      clear hown3 hg3 hown hg
      go_wp2
      go_roundw
      case rel=>exact⟨L0++[(f,k)],k+1,k+1,by omega,Nat.le_refl _,hl3,by go_num,by go_num,hown3',hg3',HC'.out⟩
      case measure=>simp[intOf];omega
   ·have HC':Hid (L0++eh s a b (s.size - (k+1)) f (k+1)=eh s a b s.size 0 0):=af (by
     have:=HC.out
     rw[eh,if_neg (by rw[HB.out];exact hab)] at this
     exact this)
    have q1:((s[k].toNat:Int)==a)=false:=by simp;intro h;exact hab (.inl h)
    have q2:((s[k].toNat:Int)==b)=false:=by simp;intro h;exact hab (.inr h)
    clear hab
    go_wp2
    go_roundw
    case rel=>exact⟨L0,f,k+1,by omega,by omega,by omega,by go_num,rfl,hown,hg,HC'.out⟩
    case measure=>simp[intOf];omega
  ·have e:s.size - k=0:=by omega
   rw[e] at HC
   have HC':Hid (L0=eh s a b s.size 0 0):=af (by have:=HC.out;simpa [eh] using this)
   go_wp2
   go_ret
   exact⟨_,rfl,by rw[←HC'.out];exact hown,hg⟩
def cg (s:ByteArray)(i:Nat)(q:Int)(j:Nat)(q':Int):Prop:=∃ n,j=i+n∧fQ s n q i=q'
theorem cg.refl (s:ByteArray)(i:Nat)(q:Int):cg s i q i q:=⟨0,rfl,rfl⟩
theorem cg.trans {s:ByteArray}{i j k:Nat}{q q' q'':Int}(h:cg s i q j q')(g:cg s j q' k q''):cg s i q k q'':=by
 obtain⟨n,rfl,rfl⟩:=h
 obtain⟨m,rfl,rfl⟩:=g
 exact⟨n+m,by omega,i7 s n m q i⟩
theorem cg.step {s:ByteArray}{i:Nat}{q q':Int}(h:ba q (bt s i)=q'):cg s i q (i+1) q':=⟨1,rfl,h⟩
theorem cg.snoc {s:ByteArray}{i j:Nat}{q q' q'':Int}(h:cg s i q j q')(g:ba q' (bt s j)=q''):cg s i q (j+1) q'':=h.trans (.step g)
def gk (s:ByteArray)(i:Nat)(q:Int)(j:Nat):Prop:=∃ q',cg s i q j q'∧0≤q'∧ba q' (bt s j)=-1∧(q'=0→j<s.size)
theorem gk.after {s:ByteArray}{i j k:Nat}{q q':Int}(h:cg s i q j q')(g:gk s j q' k):gk s i q k:=by
 obtain⟨q'',g1,g2,g3,g4⟩:=g
 exact⟨q'',h.trans g1,g2,g3,g4⟩
theorem gk.here {s:ByteArray}{i j:Nat}{q q':Int}(h:cg s i q j q')(h0:0<q')(hs:ba q' (bt s j)=-1):gk s i q j:=⟨q',h,by omega,hs,by omega⟩
theorem vC:aU 33=false:=by decide
theorem vu {s:ByteArray}{i:Nat}{q:Int}(hq:∀ c,aU c=true→ba q c=3)(h:bx s i=3):cg s i q (i+bx s i) 8:=by
 rw[h]
 unfold bx at h
 split at h
 ·split at h
  ·split at h
   ·rename_i h0 h1 h2
    have g1:cg s i q (i+1) 3:=.step (hq _ h0)
    have g2:cg s i q (i+2) 4:=g1.snoc (by simp[ba,b8,h1])
    exact g2.snoc (by simp[ba,b8,h2])
   ·omega
  ·omega
 ·omega
theorem sg {s:ByteArray}{i:Nat}{q:Int}(hq:∀ c,aU c=true→ba q c=3)(hq0:0<q)(hn:aU (bt s i)=false→ba q (bt s i)=-1)(h:¬bx s i=3):gk s i q (i+bx s i):=by
 unfold bx at h ⊢
 split
 ·rename_i h0
  have g1:cg s i q (i+1) 3:=.step (hq _ h0)
  split
  ·rename_i h1
   have g2:cg s i q (i+2) 4:=g1.snoc (by simp[ba,b8,h1])
   split
   ·rename_i h2;simp[h0,h1,h2] at h
   ·rename_i h2
    exact .here g2 (by omega) (by simp[ba,b8,h2])
  ·rename_i h1
   exact .here g1 (by omega) (by simp[ba,b8,h1])
 ·rename_i h0
  exact .here (cg.refl _ _ _) hq0 (hn (by simpa using h0))
theorem CF {s:ByteArray}{i:Nat}(h0:aU (bt s i)=false)(h33:¬bt s i=33)(h:bT s i=3):cg s i 2 (i+bT s i) 8:=by
 rw[h]
 unfold bT at h
 split at h
 ·split at h
  ·split at h
   ·rename_i h1 h2 h3
    have g1:cg s i 2 (i+1) 6:=.step (by simp[ba,b8,h0,h33,h1])
    have g2:cg s i 2 (i+2) 7:=g1.snoc (by have:bt s (i+1)=60∨bt s (i+1)=61∨bt s (i+1)=35:=by simpa [gI,or_assoc] using h2
                                          simp[ba,b8,this])
    exact g2.snoc (by simp[ba,b8,h3])
   ·omega
  ·omega
 ·omega
theorem AP {s:ByteArray}{i:Nat}(h0:aU (bt s i)=false)(h33:¬bt s i=33)(h:¬bT s i=3):gk s i 2 (i+bT s i):=by
 unfold bT at h ⊢
 split
 ·rename_i h1
  have g1:cg s i 2 (i+1) 6:=.step (by simp[ba,b8,h0,h33,h1])
  split
  ·rename_i h2
   have g2:cg s i 2 (i+2) 7:=g1.snoc (by have:bt s (i+1)=60∨bt s (i+1)=61∨bt s (i+1)=35:=by simpa [gI,or_assoc] using h2
                                         simp[ba,b8,this])
   split
   ·rename_i h3;simp[h1,h2,h3] at h
   ·rename_i h3
    exact .here g2 (by omega) (by simp[ba,b8,h3])
  ·rename_i h2
   refine .here g1 (by omega) ?_
   have:¬(bt s (i+1)=60∨bt s (i+1)=61∨bt s (i+1)=35):=by simpa [gI,or_assoc] using h2
   simp[ba,b8,this]
 ·rename_i h1
  exact .here (cg.refl _ _ _) (by omega) (by simp[ba,b8,h0,h33,h1])
theorem pd {s:ByteArray}{i:Nat}(h:b9 s i=true):cg s i 2 (i+aH s i) 8:=by
 unfold b9 at h;unfold aH
 by_cases h33:bt s i=33
 ·simp only[h33,if_true] at h ⊢
  have hp:bx s (i+1)=3:=by simpa using h
  have g:cg s i 2 (i+1) 5:=.step (by simp[ba,b8,h33,vC])
  have:=g.trans (vu (q:=5) (fun c hc=>by simp[ba,b8,hc]) hp)
  rwa [show i+(1+bx s (i+1))=i+1+bx s (i+1) by omega]
 ·by_cases hc:aU (bt s i)=true
  ·simp only[h33,hc,if_false,if_true] at h ⊢
   exact vu (q:=2) (fun c hc=>by simp[ba,b8,hc]) (by simpa using h)
  ·simp only[h33,hc,if_false] at h ⊢
   exact CF (by simpa using hc) h33 (by simpa using h)
theorem DM {s:ByteArray}{i:Nat}(h:b9 s i=false):gk s i 2 (i+aH s i):=by
 unfold b9 at h;unfold aH
 by_cases h33:bt s i=33
 ·simp only[h33,if_true] at h ⊢
  have g:cg s i 2 (i+1) 5:=.step (by simp[ba,b8,h33,vC])
  have:=gk.after g (sg (q:=5) (fun c hc=>by simp[ba,b8,hc]) (by omega) (fun hc=>by simp[ba,b8,hc]) (by simpa using h))
  rwa [show i+(1+bx s (i+1))=i+1+bx s (i+1) by omega]
 ·by_cases hc:aU (bt s i)=true
  ·simp only[h33,hc,if_false,if_true] at h ⊢
   exact sg (q:=2) (fun c hc=>by simp[ba,b8,hc]) (by omega) (fun hx=>by rw[hc] at hx;cases hx) (by simpa using h)
  ·simp only[h33,hc,if_false] at h ⊢
   exact AP (by simpa using hc) h33 (by simpa using h)
theorem B7 {s:ByteArray}{i:Nat}(h:¬i<s.size):bt s i=0:=nR h
theorem wj {s:ByteArray}{i:Nat}{L:List Nat}{j:Nat}{ok:Bool}(h:jA s i L j ok):(ok=true→cg s i 2 j 9)∧(ok=false→gk s i 2 j):=by
 refine jA.ind (M:=fun i L j ok=>(ok=true→cg s i 2 j 9)∧(ok=false→gk s i 2 j)) ?_ ?_ ?_ ?_ ?_ h
 ·intro _ h
  exact⟨fun h=>(by cases h),fun _=>.here (cg.refl _ _ _) (by omega) (by rw[B7 h];decide)⟩
 ·intro _ _ h
  exact⟨fun h=>(by cases h),fun _=>DM h⟩
 ·intro _ _ h he
  exact⟨fun _=>(pd h).snoc (by rw[he];decide),fun h=>(by cases h)⟩
 ·intro _ _ h h1 h2
  exact⟨fun h=>(by cases h),fun _=>.here (pd h) (by omega) (by simp[ba,b8,h1,h2])⟩
 ·intro _ _ _ _ _ h h1 _ ih
  have g:=(pd h).snoc (q'':=2) (by rw[h1];decide)
  exact⟨fun e=>g.trans (ih.1 e),fun e=>.after g (ih.2 e)⟩
theorem nj {s:ByteArray}{i:Nat}{q a b:Int}(h1:∀ c,bg c=true→ba q c=a)(h2:∀ c,ff c=true→ba a c=b)(h:bg (bt s i)=true):
  (ff (bt s (i+1))=true∧cg s i q (da s i) b)∨(ff (bt s (i+1))=false∧da s i=i+1∧cg s i q (da s i) a):=by
 have g:cg s i q (i+1) a:=.step (h1 _ h)
 unfold da
 by_cases ht:ff (bt s (i+1))=true
 ·left;simp only[ht,if_true];exact⟨trivial,g.snoc (h2 _ ht)⟩
 ·have ht':ff (bt s (i+1))=false:=by simpa using ht
  right;simp only[ht',Bool.false_eq_true,if_false];exact⟨trivial,trivial,g⟩
theorem EP {c:Int}(h:bg c=true):ff c=false:=by
 simp only[bg,bM,eA,Bool.or_eq_true,decide_eq_true_eq] at h
 simp only[ff,Bool.or_eq_false_iff,beq_eq_false_iff_ne]
 omega
def Fs (s:ByteArray)(i:Nat)(j:Nat):Prop:=cg s i 9 j 17∨(cg s i 9 j 16∧ff (bt s j)=false)
theorem DQ {s:ByteArray}{i:Nat}(h:gm s i=true):cg s i 14 (i+c9 s i) 17∨(cg s i 14 (i+c9 s i) 16∧ff (bt s (i+c9 s i))=false):=by
 simp only[gm,Bool.and_eq_true] at h
 obtain⟨h0,h1⟩:=h
 have hj:=ep s (i+1)
 have e:i+c9 s i=da s (i+1):=by simp[c9,h0,h1];omega
 rw[e]
 have g1:cg s i 14 (i+1) 15:=.step (by simp[ba,dP,h0])
 rcases nj (q:=15) (a:=16) (b:=17) (fun c hc=>by simp[ba,dP,hc]) (fun c hc=>by simp[ba,dP,hc]) h1 with ⟨_,g⟩|⟨ht,hjj,g⟩
 ·exact .inl (g1.trans g)
 ·exact .inr ⟨g1.trans g,by rw[hjj];exact ht⟩
theorem Ap {s:ByteArray}{i:Nat}(h:gm s i=false):gk s i 14 (i+c9 s i):=by
 unfold gm at h;unfold c9
 split
 ·rename_i h0
  have g1:cg s i 14 (i+1) 15:=.step (by simp[ba,dP,h0])
  split
  ·rename_i h1;simp[h0,h1] at h
  ·rename_i h1;exact .here g1 (by omega) (by simp[ba,dP,h1])
 ·rename_i h0;exact .here (cg.refl _ _ _) (by omega) (by simp[ba,dP,h0])
theorem Co {s:ByteArray}{i:Nat}(h:fL s i=true):cg s i 10 (i+cP s i) 17∨(cg s i 10 (i+cP s i) 16∧ff (bt s (i+cP s i))=false):=by
 simp only[fL,Bool.and_eq_true] at h
 obtain⟨⟨h0,h1⟩,h2⟩:=h
 have hj:=ep s (i+1)
 have hj2:=ep s (da s (i+1))
 have e:i+cP s i=da s (da s (i+1)):=by simp[cP,h0,h1,h2];omega
 rw[e]
 have g1:cg s i 10 (i+1) 11:=.step (by simp[ba,dP,h0])
 have g2:cg s i 10 (da s (i+1)) 13∨(cg s i 10 (da s (i+1)) 12∧ff (bt s (da s (i+1)))=false):=by
  rcases nj (q:=11) (a:=12) (b:=13) (fun c hc=>by simp[ba,dP,hc]) (fun c hc=>by simp[ba,dP,hc]) h1 with ⟨_,g⟩|⟨ht,hjj,g⟩
  ·exact .inl (g1.trans g)
  ·exact .inr ⟨g1.trans g,by rw[hjj];exact ht⟩
 rcases g2 with g2|⟨g2,ht⟩
 ·rcases nj (q:=13) (a:=16) (b:=17) (fun c hc=>by simp[ba,dP,hc]) (fun c hc=>by simp[ba,dP,hc]) h2 with ⟨_,g⟩|⟨ht,hjj,g⟩
  ·exact .inl (g2.trans g)
  ·exact .inr ⟨g2.trans g,by rw[hjj];exact ht⟩
 ·rcases nj (q:=12) (a:=16) (b:=17) (fun c hc=>by simp[ba,dP,hc,EP hc]) (fun c hc=>by simp[ba,dP,hc]) h2 with ⟨_,g⟩|⟨ht,hjj,g⟩
  ·exact .inl (g2.trans g)
  ·exact .inr ⟨g2.trans g,by rw[hjj];exact ht⟩
theorem zp {s:ByteArray}{i:Nat}(h:fL s i=false):gk s i 10 (i+cP s i):=by
 unfold fL at h;unfold cP
 split
 ·rename_i h0
  have g1:cg s i 10 (i+1) 11:=.step (by simp[ba,dP,h0])
  split
  ·rename_i h1
   have hj:=ep s (i+1)
   split
   ·rename_i h2;simp[h0,h1,h2] at h
   ·rename_i h2
    rw[show i+(da s (i+1) - i)=da s (i+1) by omega]
    rcases nj (q:=11) (a:=12) (b:=13) (fun c hc=>by simp[ba,dP,hc]) (fun c hc=>by simp[ba,dP,hc]) h1 with ⟨_,g⟩|⟨ht,hjj,g⟩
    ·exact .here (g1.trans g) (by omega) (by simp[ba,dP,h2])
    ·exact .here (g1.trans g) (by omega) (by rw[←hjj] at ht;simp[ba,dP,h2,ht])
  ·rename_i h1;exact .here g1 (by omega) (by simp[ba,dP,h1])
 ·rename_i h0;exact .here (cg.refl _ _ _) (by omega) (by simp[ba,dP,h0])
theorem sR {s:ByteArray}{i:Nat}(h:cU s i=true):Fs s i (i+aR s i):=by
 unfold cU at h;unfold aR Fs
 by_cases h43:bt s i=43
 ·simp only[h43,if_true] at h ⊢
  have g:cg s i 9 (i+1) 10:=.step (by rw[h43];decide)
  rw[show i+(1+cP s (i+1))=i+1+cP s (i+1) by omega]
  rcases Co h with g2|⟨g2,ht⟩
  ·exact .inl (g.trans g2)
  ·exact .inr ⟨g.trans g2,ht⟩
 ·by_cases h45:bt s i=45
  ·simp only[h45,if_true] at h ⊢
   have g:cg s i 9 (i+1) 14:=.step (by rw[h45];decide)
   simp only[show ¬(45:Int)=43 by decide,if_false] at h ⊢
   rw[show i+(1+c9 s (i+1))=i+1+c9 s (i+1) by omega]
   rcases DQ h with g2|⟨g2,ht⟩
   ·exact .inl (g.trans g2)
   ·exact .inr ⟨g.trans g2,ht⟩
  ·simp only[h43,h45,if_false,beq_iff_eq] at h
   simp only[h,if_true,show ¬(46:Int)=43 by decide,show ¬(46:Int)=45 by decide,if_false]
   exact .inl (.step (by rw[h];decide))
theorem CO {s:ByteArray}{i:Nat}(h:cU s i=false):gk s i 9 (i+aR s i):=by
 unfold cU at h;unfold aR
 by_cases h43:bt s i=43
 ·simp only[h43,if_true] at h ⊢
  have g:cg s i 9 (i+1) 10:=.step (by rw[h43];decide)
  rw[show i+(1+cP s (i+1))=i+1+cP s (i+1) by omega]
  exact .after g (zp h)
 ·by_cases h45:bt s i=45
  ·simp only[h45,if_true] at h ⊢
   have g:cg s i 9 (i+1) 14:=.step (by rw[h45];decide)
   simp only[show ¬(45:Int)=43 by decide,if_false] at h ⊢
   rw[show i+(1+c9 s (i+1))=i+1+c9 s (i+1) by omega]
   exact .after g (Ap h)
  ·have h46:¬bt s i=46:=by simpa [h43,h45] using h
   simp only[h43,h45,h46,if_false]
   exact .here (cg.refl _ _ _) (by omega) (by simp[ba,dP,h43,h45,h46])
theorem wh {s:ByteArray}{i:Nat}{L:List Nat}{j:Nat}{ok:Bool}(h:jY s i L j ok):(ok=true→cg s i 9 j 0)∧(ok=false→gk s i 9 j):=by
 refine jY.ind (M:=fun i L j ok=>(ok=true→cg s i 9 j 0)∧(ok=false→gk s i 9 j)) ?_ ?_ ?_ ?_ ?_ h
 ·intro _ h
  exact⟨fun h=>(by cases h),fun _=>.here (cg.refl _ _ _) (by omega) (by rw[B7 h];decide)⟩
 ·intro _ _ h
  exact⟨fun h=>(by cases h),fun _=>CO h⟩
 ·intro _ _ h he
  refine⟨fun _=>?_,fun h=>(by cases h)⟩
  rcases sR h with g|⟨g,_⟩
  ·exact g.snoc (by rw[he];decide)
  ·exact g.snoc (by rw[he];decide)
 ·intro _ _ h h1 h2
  refine⟨fun h=>(by cases h),fun _=>?_⟩
  rcases sR h with g|⟨g,ht⟩
  ·exact .here g (by omega) (by simp[ba,dP,h1,h2])
  ·exact .here g (by omega) (by simp[ba,dP,h1,h2,ht])
 ·intro i' _ _ _ _ h h1 _ ih
  have g:cg s i' 9 (i'+aR s i'+1) 9:=by
   rcases sR h with g|⟨g,_⟩
   ·exact g.snoc (by rw[h1];decide)
   ·exact g.snoc (by rw[h1];decide)
  exact⟨fun e=>g.trans (ih.1 e),fun e=>.after g (ih.2 e)⟩
theorem t7 {s:ByteArray}{i:Nat}{L K:List Nat}{j:Nat}{ok:Bool}(hi:i<s.size)(h:rk s i L K j ok):(ok=true→cg s i 0 j 0)∧(ok=false→gk s i 0 j):=by
 rcases h with ⟨h,_,_,rfl,rfl⟩|⟨h,h1,_,_,rfl,rfl⟩|⟨h,h1,hc,_,rfl⟩|⟨j1,h,h1,hc,ha⟩
 ·exact⟨fun h=>(by cases h),fun _=>⟨0,cg.refl _ _ _,by omega,by simp[ba,b8,h],fun _=>hi⟩⟩
 ·exact⟨fun h=>(by cases h),fun _=>.here (.step (q':=1) (by simp[ba,b8,h])) (by omega) (by simp[ba,b8,h1])⟩
 ·have g:cg s i 0 (i+2) 2:=(cg.step (q':=1) (by simp[ba,b8,h])).snoc (by rw[h1];decide)
  exact⟨fun h=>(by cases h),fun _=>.after g ((wj hc).2 rfl)⟩
 ·have g:cg s i 0 (i+2) 2:=(cg.step (q':=1) (by simp[ba,b8,h])).snoc (by rw[h1];decide)
  have g2:=g.trans ((wj hc).1 rfl)
  exact⟨fun e=>g2.trans ((wh ha).1 e),fun e=>.after g2 ((wh ha).2 e)⟩
theorem pz {s:ByteArray}{i:Nat}{R:List ay}{j:Nat}{ok:Bool}(h:kP s i R j ok):(ok=true→cg s i 0 j 0∧¬j<s.size)∧(ok=false→gk s i 0 j):=by
 refine kP.ind (M:=fun i R j ok=>(ok=true→cg s i 0 j 0∧¬j<s.size)∧(ok=false→gk s i 0 j)) ?_ ?_ ?_ h
 ·intro _ h
  exact⟨fun _=>⟨cg.refl _ _ _,h⟩,fun h=>(by cases h)⟩
 ·intro _ _ _ _ hi h
  exact⟨fun h=>(by cases h),fun _=>(t7 hi h).2 rfl⟩
 ·intro _ _ _ _ _ _ _ hi h _ ih
  have g:=(t7 hi h).1 rfl
  exact⟨fun e=>⟨g.trans (ih.1 e).1,(ih.1 e).2⟩,fun e=>.after g (ih.2 e)⟩
theorem Bu (c:Int):ba (-1) c=-1:=by simp[ba,b8]
theorem yd (q:Int):ba q 0=-1:=by
 have h1:bM 0=false:=by decide
 have h2:aU 0=false:=by decide
 have h3:bg 0=false:=by decide
 have h4:c8 0=false:=by decide
 have h5:ff 0=false:=by decide
 simp[ba,b8,dP,h1,h2,h3,h4,h5]
theorem lf (s:ByteArray):∀ (n:Nat) (i:Nat),fQ s n (-1) i=-1
 |0,_=>rfl
 |n+1,i=>by simp only[fQ,Bu];exact lf s n _
theorem ld (s:ByteArray)(n:Nat)(h:0≤fQ s n 0 0):n≤s.size:=by
 by_cases hn:n≤s.size
 ·exact hn
 ·have e:n=(s.size+1)+(n - s.size - 1):=by omega
  rw[e,i7,iH,nR (by omega),yd,lf] at h
  omega
theorem yh {s:ByteArray}{j:Nat}(h:gk s 0 0 j){p:Int}(hp:pY s p):p=j:=by
 obtain⟨q,⟨n,hn,hq⟩,h0,h1,h2⟩:=h
 have hn:n=j:=by omega
 subst hn
 have hjs:n≤s.size:=ld s n (by rw[hq];exact h0)
 have hdead:∀ m,n<m→fQ s m 0 0=-1:=by
  intro m hm
  rw[show m=(n+1)+(m - n - 1) by omega,i7,iH,hq,Nat.zero_add,h1,lf]
 rcases hp with ⟨_,h⟩|⟨k,rfl,hk,h3,h4,h5⟩
 ·by_cases e:n=s.size
  ·rw[←e,hq] at h
   have:=h2 h
   omega
  ·rw[hdead s.size (by omega)] at h
   omega
 ·rcases Nat.lt_trichotomy k n with hlt|he|hgt
  ·have hx:=h4 (by omega)
   have:fQ s n 0 0=-1:=by rw[show n=(k+1)+(n - k - 1) by omega,i7,iH,Nat.zero_add,hx,lf]
   omega
  ·rw[he]
  ·rw[hdead k hgt] at h3
   omega
theorem xM {s:ByteArray}{j:Nat}(h:cg s 0 0 j 0)(hj:¬j<s.size){p:Int}(hp:pY s p):p=-1∧j=s.size:=by
 obtain⟨n,hn,hq⟩:=h
 have hn:n=j:=by omega
 subst hn
 have hjs:n≤s.size:=ld s n (by rw[hq];omega)
 have e:n=s.size:=by omega
 subst e
 refine⟨?_,rfl⟩
 rcases hp with ⟨h,_⟩|⟨k,rfl,hk,h3,h4,h5⟩
 ·exact h
 ·by_cases e:k=s.size
  ·exact absurd (by rw[e];exact hq) (h5 e)
  ·have hx:=h4 (by omega)
   have:fQ s s.size 0 0=-1:=by rw[show s.size=(k+1)+(s.size - k - 1) by omega,i7,iH,Nat.zero_add,hx,lf]
   omega
end Go.Proofs.YthlhbjnkohinmabGreat
