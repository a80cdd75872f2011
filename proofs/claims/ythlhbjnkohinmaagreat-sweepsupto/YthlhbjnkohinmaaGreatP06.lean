import Derived.Test.YthlhbjnkohinmaaGreatProg
import Derived.Test.YthlhbjnkohinmaaGreatP00
import Derived.WalkKit
import Derived.WalkSpells
import Derived.WalkLawsBesides
import Derived.Test.YthlhbjnkohinmaaGreatP05
import Derived.Lib.Strings
namespace Go.Proofs.YthlhbjnkohinmaaGreat
set_option maxRecDepth 100000
set_option maxHeartbeats 8000000
open Go.RowKit
theorem eX (c:Int)(w:World)(h0:0≤c)(h1:c≤255):
  Calls Tryz.prog 46 #[.int .u8 c] w fun e w'=>e=.returned (.bool (bM c))∧w=w':=by
 go_enter Tryz.func46,Tryz.ntmps46
 go_wp2
 all_goals
  go_ret
  exact⟨cZ (by simp[bM];omega),rfl⟩
theorem pY (c:Int)(w:World)(h0:0≤c)(h1:c≤255):
  Calls Tryz.prog 130 #[.int .u8 c] w fun e w'=>e=.returned (.bool (ex c))∧w=w':=by
 go_enter Tryz.func130,Tryz.ntmps130
 go_wp2
 all_goals
  go_ret
  exact⟨cZ (by simp[ex];omega),rfl⟩
theorem gP (c:Int)(w:World)(h0:0≤c)(h1:c≤255):
  Calls Tryz.prog 45 #[.int .u8 c] w fun e w'=>e=.returned (.bool (aR c))∧w=w':=by
 go_enter Tryz.func45,Tryz.ntmps45
 go_wp2
 all_goals
  go_ret
  exact⟨cZ (by simp[aR];omega),rfl⟩
theorem na (c:Int)(w:World)(_h0:0≤c)(_h1:c≤255):
  Calls Tryz.prog 120 #[.int .u8 c] w fun e w'=>e=.returned (.bool (fe c))∧w=w':=by
 go_enter Tryz.func120,Tryz.ntmps120
 go_wp2
 all_goals
  go_ret
  exact⟨cZ (by simp[fe, *]),rfl⟩
theorem ml (c:Int)(w:World)(h0:0≤c)(h1:c≤255):
  Calls Tryz.prog 128 #[.int .u8 c] w fun e w'=>e=.returned (.bool (bd c))∧w=w':=by
 go_enter Tryz.func128,Tryz.ntmps128
 go_wp2_with (first|(go_at_call 46;refine (eX _ _ (by omega) (by omega)).mono ?_;rintro e w' ⟨rfl,rfl⟩)|(go_at_call 130;refine (pY _ _ (by omega) (by omega)).mono ?_;rintro e w' ⟨rfl,rfl⟩))
 all_goals
  go_ret
  exact⟨cZ (by simp[bd, *]),rfl⟩
theorem Ck (c:Int)(w:World)(h0:0≤c)(h1:c≤255):
  Calls Tryz.prog 129 #[.int .u8 c] w fun e w'=>e=.returned (.bool (c7 c))∧w=w':=by
 go_enter Tryz.func129,Tryz.ntmps129
 go_wp2_with (go_at_call 128;refine (ml _ _ (by omega) (by omega)).mono ?_;rintro e w' ⟨rfl,rfl⟩)
 all_goals
  go_ret
  exact⟨cZ (by simp[c7, *]),rfl⟩
theorem Bu (q c:Int)(w:World)(h0:0≤c)(h1:c≤255)(hq0:0≤q)(hq:q≤8):
  Calls Tryz.prog 104 #[.int .i64 q,.int .u8 c] w fun e w'=>e=.returned (.int .i64 (b6 q c))∧w=w':=by
 go_enter Tryz.func104,Tryz.ntmps104
 go_wp2_with (first|(go_at_call 46;refine (eX _ _ (by omega) (by omega)).mono ?_;rintro e w' ⟨rfl,rfl⟩)|(go_at_call 45;refine (gP _ _ (by omega) (by omega)).mono ?_;rintro e w' ⟨rfl,rfl⟩)|(go_at_call 128;refine (ml _ _ (by omega) (by omega)).mono ?_;rintro e w' ⟨rfl,rfl⟩)|(go_at_call 129;refine (Ck _ _ (by omega) (by omega)).mono ?_;rintro e w' ⟨rfl,rfl⟩))
 all_goals
  go_ret
  refine⟨j4 ?_,rfl⟩
  simp_all [b6]
theorem C8 (q c:Int)(w:World)(h0:0≤c)(h1:c≤255)(hq0:9≤q)(hq:q≤17):
  Calls Tryz.prog 105 #[.int .i64 q,.int .u8 c] w fun e w'=>e=.returned (.int .i64 (dM q c))∧w=w':=by
 go_enter Tryz.func105,Tryz.ntmps105
 go_wp2_with (first|(go_at_call 120;refine (na _ _ (by omega) (by omega)).mono ?_;rintro e w' ⟨rfl,rfl⟩)|(go_at_call 45;refine (gP _ _ (by omega) (by omega)).mono ?_;rintro e w' ⟨rfl,rfl⟩)|(go_at_call 128;refine (ml _ _ (by omega) (by omega)).mono ?_;rintro e w' ⟨rfl,rfl⟩))
 all_goals
  go_ret
  refine⟨j4 ?_,rfl⟩
  simp_all [dM]
def fN (s:ByteArray):Nat→Int→Nat→Int
 |0,q,_=>q
 |n+1,q,i=>fN s n (a9 q (bt s i)) (i+1)
theorem iR (s:ByteArray):∀ (m n:Nat) (q:Int) (i:Nat),fN s (m+n) q i=fN s n (fN s m q i) (i+m)
 |0,n,q,i=>by simp[fN]
 |m+1,n,q,i=>by
  rw[show m+1+n=(m+n)+1 by omega]
  simp only[fN]
  rw[iR s m n,show i+1+m=i+(m+1) by omega]
theorem iI (s:ByteArray)(n:Nat)(q:Int)(i:Nat):fN s (n+1) q i=a9 (fN s n q i) (bt s (i+n)):=by
 rw[iR s n 1];rfl
theorem vx (q c:Int):-1≤a9 q c∧a9 q c≤17:=by
 unfold a9 b6 dM
 repeat' split
 all_goals omega
def pg (s:ByteArray)(p:Int):Prop:=
 (p=-1∧fN s s.size 0 0=0)∨∃ k:Nat,p=k∧k≤s.size∧0≤fN s k 0 0∧(k<s.size→a9 (fN s k 0 0) (bt s k)=-1)∧(k=s.size→fN s k 0 0≠0)
theorem sA (s:ByteArray)(w:World)(hs:s.size≤400):
  Calls Tryz.prog 76 #[.string s] w fun e w'=>∃ p,e=.returned (.int .i64 p)∧pg s p∧w=w':=by
 go_enter Tryz.func76,Tryz.ntmps76
 go_wp2_with fail
 go_loop [3,4] (fun t i=>∃ k:Nat,k≤s.size∧i=.int .i64 k∧t=.int .i64 (fN s k 0 0)∧0≤fN s k 0 0) (fun _ i=>s.size - (intOf i).toNat)
 case atStart=>exact⟨0,Nat.zero_le _,rfl,rfl,by simp[fN]⟩
 case round=>
  obtain⟨k,hk,rfl,rfl,hq0⟩:=hrel
  by_cases hlt:k<s.size
  ·have HS:=af (iI s k 0 0)
   rw[Nat.zero_add] at HS
   have hq17:fN s k 0 0≤17:=by
    cases k with
    |zero=>simp[fN]
    |succ k=>rw[iI];exact (vx _ _).2
   have hbt:=bh hlt
   have hb:=bU s k
   have HB:=af hbt
   rw[hbt] at hb
   clear hbt
   have hnx:=vx (fN s k 0 0) (bt s k)
   have HF:Hid (a9 (fN s k 0 0) (bt s k)=if fN s k 0 0<9 then b6 (fN s k 0 0) (s[k].toNat:Int) else dM (fN s k 0 0) (s[k].toNat:Int)):=af (by rw[HB.out];rfl)
   obtain⟨q,hq⟩:∃ q,q=fN s k 0 0:=⟨_,rfl⟩
   obtain⟨nx,hnxe⟩:∃ nx,nx=a9 q (bt s k):=⟨_,rfl⟩
   rw[←hq] at HS HF hq0 hq17 hnx ⊢
   rw[←hnxe] at HS HF hnx
   have HNX:=af hnxe
   have HQ:=af hq
   clear hnxe hq
   by_cases h9:q<9
   ·have HC:Hid (b6 q (s[k].toNat:Int)=nx):=af (by rw[HF.out,if_pos h9])
    have HCC:=af (fun W=>Bu q (s[k].toNat:Int) W hb.1 hb.2 hq0 (by omega))
    rw[HC.out] at HCC
    by_cases hm:nx=-1
    ·subst hm
     go_wp2_with (go_at_call 104;refine (HCC.out _).mono ?_;rintro e w' ⟨rfl,rfl⟩)
     go_ret
     exact⟨_,rfl,.inr ⟨k,rfl,hk,by rw[←HQ.out];exact hq0,fun _=>by rw[←HQ.out,←HNX.out],fun h=>by omega⟩,rfl⟩
    ·have hm':(nx==-1)=false:=by simpa using hm
     go_wp2_with (go_at_call 104;refine (HCC.out _).mono ?_;rintro e w' ⟨rfl,rfl⟩)
     go_round
     case rel=>exact⟨k+1,by omega,by go_num,by rw[HS.out],by rw[HS.out];omega⟩
     case measure=>simp[intOf];omega
   ·have HC:Hid (dM q (s[k].toNat:Int)=nx):=af (by rw[HF.out,if_neg h9])
    have HCC:=af (fun W=>C8 q (s[k].toNat:Int) W hb.1 hb.2 (by omega) hq17)
    rw[HC.out] at HCC
    by_cases hm:nx=-1
    ·subst hm
     go_wp2_with (go_at_call 105;refine (HCC.out _).mono ?_;rintro e w' ⟨rfl,rfl⟩)
     go_ret
     exact⟨_,rfl,.inr ⟨k,rfl,hk,by rw[←HQ.out];exact hq0,fun _=>by rw[←HQ.out,←HNX.out],fun h=>by omega⟩,rfl⟩
    ·have hm':(nx==-1)=false:=by simpa using hm
     go_wp2_with (go_at_call 105;refine (HCC.out _).mono ?_;rintro e w' ⟨rfl,rfl⟩)
     go_round
     case rel=>exact⟨k+1,by omega,by go_num,by rw[HS.out],by rw[HS.out];omega⟩
     case measure=>simp[intOf];omega
  ·have E:Hid (k=s.size):=af (by omega)
   by_cases h0:fN s k 0 0=0
   ·have H0:=af h0
    rw[h0]
    clear h0
    go_wp2
    go_ret
    exact⟨_,rfl,.inl ⟨rfl,by rw[←E.out];exact H0.out⟩,rfl⟩
   ·have h0':(fN s k 0 0 != 0)=true:=by simpa using h0
    go_wp2
    go_ret
    exact⟨_,rfl,.inr ⟨s.size,rfl,Nat.le_refl _,by rw[←E.out];exact hq0,fun h=>by omega,fun _=>by rw[←E.out];exact h0⟩,rfl⟩
def d8 (s:ByteArray)(a b:Int):Nat→Nat→Nat→List (Nat×Nat)
 |0,_,_=>[]
 |n+1,f,i=>if bt s i=a∨bt s i=b then (f,i)::d8 s a b n (i+1) (i+1) else d8 s a b n f (i+1)
def lI (s:ByteArray)(l:List (Nat×Nat)):List Value:=l.map fun p=>.string (s.extract p.1 p.2)
theorem r7 (s:ByteArray)(l:List (Nat×Nat))(f t:Nat):lI s (l++[(f,t)])=lI s l++[.string (s.extract f t)]:=by simp[lI]
theorem Tryz.info9:(Tryz.prog.info? 9).map (fun i=>(i.zero,i.size,i.bytes))=some (some (.string ByteArray.empty),1,16):=by kernel_rfl
theorem s7 (s:ByteArray)(a b:Int)(w:World)(hs:s.size≤401)(_ha:0≤a∧a≤255)(_hb:0≤b∧b≤255):
  Calls Tryz.prog 106 #[.string s,.int .u8 a,.int .u8 b] w fun e w'=>∃ v,e=.returned v∧w'.ownsRow w.heap.size 9 1 v (d8 s a b s.size 0 0).length (lI s (d8 s a b s.size 0 0))∧w.grownBy w' none:=by
 obtain⟨i0,hi0,hz0,hz1,hz2⟩:=info_parts Tryz.info9
 go_enter Tryz.func106,Tryz.ntmps106
 go_wp2_with fail
 go_loopw [7,8,9] (fun v t i wr=>∃ (L0:List (Nat×Nat)) (f k:Nat),k≤s.size∧f≤k∧L0.length≤k∧i=.int .i64 k∧t=.int .i64 f∧wr.ownsRow w.heap.size 9 1 v L0.length (lI s L0)∧w.grownBy wr none∧L0++d8 s a b (s.size - k) f k=d8 s a b s.size 0 0) (fun _ _ i _=>s.size - (intOf i).toNat)
 case atStart=>exact⟨[],0,0,Nat.zero_le _,Nat.le_refl _,Nat.zero_le _,rfl,rfl,World.ownsRow_nil _ _ _ _,ag _ _,rfl⟩
 case round=>
  obtain⟨L0,f,k,hk,hf,hL,rfl,rfl,hown,hg,hcut⟩:=hrel
  have HC:=af hcut
  clear hcut
  by_cases hlt:k<s.size
  ·have HB:=af (bh hlt)
   have hbd:=bU s k
   have hsz:=hg.size
   rw[HB.out] at hbd
   have e:s.size - k=(s.size - (k+1))+1:=by omega
   rw[e] at HC
   by_cases hab:(s[k].toNat:Int)=a∨(s[k].toNat:Int)=b
   ·have HC':Hid ((L0++[(f,k)])++d8 s a b (s.size - (k+1)) (k+1) (k+1)=d8 s a b s.size 0 0):=af (by
     have:=HC.out
     rw[d8,if_pos (by rw[HB.out];exact hab)] at this
     simpa using this)
    by_cases h1:(s[k].toNat:Int)=a
    ·have q1:((s[k].toNat:Int)==a)=true:=by simpa using h1
     clear hab h1
     go_wp2_with (first|(at_builtin;refine wpList_append_own _ rfl (.tmp 28) (.tmp 33) 98 rfl (w.heap.size) 9 i0 (.string ByteArray.empty) 1 16 Tryz.underlying98 hi0 hz0 hz1 hz2 rfl (by decide) _ _ _ rfl (hown.alloc _) _ 1 1 [.string (s.extract f k)] rfl rfl ?c1 ?c2 ?c3 ?c4 ?c5 ?_))
     case c1=>intro j u hj;exact bj hj
     case c2=>intro u hu;simp at hu;subst hu;rfl
     case c3=>unfold maxLen;omega
     case c4=>omega
     case c5=>simp;omega
     ·intro v' w3 hown3 hg3 _
      have hown3':w3.ownsRow w.heap.size 9 1 v' (L0++[(f,k)]).length (lI s (L0++[(f,k)])):=by rw[r7];simpa using hown3
      have hg3':w.grownBy w3 none:=aL (ab hg _) hg3 (fun g hg=>(hown.lt g hg).1)
      have hl3:(L0++[(f,k)]).length≤k+1:=by simp;omega
      clear hown3 hg3 hown hg
      go_wp2
      go_roundw
      case rel=>exact⟨L0++[(f,k)],k+1,k+1,by omega,Nat.le_refl _,hl3,by go_num,by go_num,hown3',hg3',HC'.out⟩
      case measure=>simp[intOf];omega
    ·have q1:((s[k].toNat:Int)==a)=false:=by simpa using h1
     have q2:((s[k].toNat:Int)==b)=true:=by simpa [h1] using hab
     clear hab h1
     go_wp2_with (first|(at_builtin;refine wpList_append_own _ rfl (.tmp 28) (.tmp 33) 98 rfl (w.heap.size) 9 i0 (.string ByteArray.empty) 1 16 Tryz.underlying98 hi0 hz0 hz1 hz2 rfl (by decide) _ _ _ rfl (hown.alloc _) _ 1 1 [.string (s.extract f k)] rfl rfl ?c1 ?c2 ?c3 ?c4 ?c5 ?_))
     case c1=>intro j u hj;exact bj hj
     case c2=>intro u hu;simp at hu;subst hu;rfl
     case c3=>unfold maxLen;omega
     case c4=>omega
     case c5=>simp;omega
     ·intro v' w3 hown3 hg3 _
      have hown3':w3.ownsRow w.heap.size 9 1 v' (L0++[(f,k)]).length (lI s (L0++[(f,k)])):=by rw[r7];simpa using hown3
      have hg3':w.grownBy w3 none:=aL (ab hg _) hg3 (fun g hg=>(hown.lt g hg).1)
      have hl3:(L0++[(f,k)]).length≤k+1:=by simp;omega
      clear hown3 hg3 hown hg
      go_wp2
      go_roundw
      case rel=>exact⟨L0++[(f,k)],k+1,k+1,by omega,Nat.le_refl _,hl3,by go_num,by go_num,hown3',hg3',HC'.out⟩
      case measure=>simp[intOf];omega
   ·have HC':Hid (L0++d8 s a b (s.size - (k+1)) f (k+1)=d8 s a b s.size 0 0):=af (by
     have:=HC.out
     rw[d8,if_neg (by rw[HB.out];exact hab)] at this
     exact this)
    have q1:((s[k].toNat:Int)==a)=false:=by simp;intro h;exact hab (.inl h)
    have q2:((s[k].toNat:Int)==b)=false:=by simp;intro h;exact hab (.inr h)
    clear hab
    go_wp2
    go_roundw
    case rel=>exact⟨L0,f,k+1,by omega,by omega,by omega,by go_num,rfl,hown,hg,HC'.out⟩
    case measure=>simp[intOf];omega
  ·have e:s.size - k=0:=by omega
   rw[e] at HC
   have HC':Hid (L0=d8 s a b s.size 0 0):=af (by have:=HC.out;simpa [d8] using this)
   go_wp2
   go_ret
   exact⟨_,rfl,by rw[←HC'.out];exact hown,hg⟩
def cd (s:ByteArray)(i:Nat)(q:Int)(j:Nat)(q':Int):Prop:=∃ n,j=i+n∧fN s n q i=q'
theorem cd.refl (s:ByteArray)(i:Nat)(q:Int):cd s i q i q:=⟨0,rfl,rfl⟩
theorem cd.trans {s:ByteArray}{i j k:Nat}{q q' q'':Int}(h:cd s i q j q')(g:cd s j q' k q''):cd s i q k q'':=by
 obtain⟨n,rfl,rfl⟩:=h
 obtain⟨m,rfl,rfl⟩:=g
 exact⟨n+m,by omega,iR s n m q i⟩
theorem cd.step {s:ByteArray}{i:Nat}{q q':Int}(h:a9 q (bt s i)=q'):cd s i q (i+1) q':=⟨1,rfl,h⟩
theorem cd.snoc {s:ByteArray}{i j:Nat}{q q' q'':Int}(h:cd s i q j q')(g:a9 q' (bt s j)=q''):cd s i q (j+1) q'':=h.trans (.step g)
def gt (s:ByteArray)(i:Nat)(q:Int)(j:Nat):Prop:=∃ q',cd s i q j q'∧0≤q'∧a9 q' (bt s j)=-1∧(q'=0→j<s.size)
theorem gt.after {s:ByteArray}{i j k:Nat}{q q':Int}(h:cd s i q j q')(g:gt s j q' k):gt s i q k:=by
 obtain⟨q'',g1,g2,g3,g4⟩:=g
 exact⟨q'',h.trans g1,g2,g3,g4⟩
theorem gt.here {s:ByteArray}{i j:Nat}{q q':Int}(h:cd s i q j q')(h0:0<q')(hs:a9 q' (bt s j)=-1):gt s i q j:=⟨q',h,by omega,hs,by omega⟩
theorem vh:aR 33=false:=by decide
theorem vP {s:ByteArray}{i:Nat}{q:Int}(hq:∀ c,aR c=true→a9 q c=3)(h:bu s i=3):cd s i q (i+bu s i) 8:=by
 rw[h]
 unfold bu at h
 split at h
 ·split at h
  ·split at h
   ·rename_i h0 h1 h2
    have g1:cd s i q (i+1) 3:=.step (hq _ h0)
    have g2:cd s i q (i+2) 4:=g1.snoc (by simp[a9,b6,h1])
    exact g2.snoc (by simp[a9,b6,h2])
   ·omega
  ·omega
 ·omega
theorem sf {s:ByteArray}{i:Nat}{q:Int}(hq:∀ c,aR c=true→a9 q c=3)(hq0:0<q)(hn:aR (bt s i)=false→a9 q (bt s i)=-1)(h:¬bu s i=3):gt s i q (i+bu s i):=by
 unfold bu at h ⊢
 split
 ·rename_i h0
  have g1:cd s i q (i+1) 3:=.step (hq _ h0)
  split
  ·rename_i h1
   have g2:cd s i q (i+2) 4:=g1.snoc (by simp[a9,b6,h1])
   split
   ·rename_i h2;simp[h0,h1,h2] at h
   ·rename_i h2
    exact .here g2 (by omega) (by simp[a9,b6,h2])
  ·rename_i h1
   exact .here g1 (by omega) (by simp[a9,b6,h1])
 ·rename_i h0
  exact .here (cd.refl _ _ _) hq0 (hn (by simpa using h0))
theorem F6 {c:Int}(h:aR c=true):bd c=false:=by
 simp only[aR,decide_eq_true_eq] at h
 simp only[bd,bM,ex,Bool.or_eq_false_iff,decide_eq_false_iff_not]
 omega
theorem Cb {s:ByteArray}{i:Nat}(h0:aR (bt s i)=false)(h33:¬bt s i=33)(h:bS s i=3):cd s i 2 (i+bS s i) 8:=by
 rw[h]
 unfold bS at h
 split at h
 ·split at h
  ·split at h
   ·rename_i h1 h2 h3
    have g1:cd s i 2 (i+1) 6:=.step (by simp[a9,b6,h0,h33,h1])
    have g2:cd s i 2 (i+2) 7:=g1.snoc (by have:bt s (i+1)=60∨bt s (i+1)=61∨bt s (i+1)=35:=by simpa [gJ,or_assoc] using h2
                                          simp[a9,b6,this])
    exact g2.snoc (by simp[a9,b6,h3])
   ·omega
  ·omega
 ·omega
theorem zW {s:ByteArray}{i:Nat}(h0:aR (bt s i)=false)(h33:¬bt s i=33)(h:¬bS s i=3):gt s i 2 (i+bS s i):=by
 unfold bS at h ⊢
 split
 ·rename_i h1
  have g1:cd s i 2 (i+1) 6:=.step (by simp[a9,b6,h0,h33,h1])
  split
  ·rename_i h2
   have g2:cd s i 2 (i+2) 7:=g1.snoc (by have:bt s (i+1)=60∨bt s (i+1)=61∨bt s (i+1)=35:=by simpa [gJ,or_assoc] using h2
                                         simp[a9,b6,this])
   split
   ·rename_i h3;simp[h1,h2,h3] at h
   ·rename_i h3
    exact .here g2 (by omega) (by simp[a9,b6,h3])
  ·rename_i h2
   refine .here g1 (by omega) ?_
   have:¬(bt s (i+1)=60∨bt s (i+1)=61∨bt s (i+1)=35):=by simpa [gJ,or_assoc] using h2
   simp[a9,b6,this]
 ·rename_i h1
  exact .here (cd.refl _ _ _) (by omega) (by simp[a9,b6,h0,h33,h1])
theorem oW {s:ByteArray}{i:Nat}(h:b7 s i=true):cd s i 2 (i+aH s i) 8:=by
 unfold b7 at h;unfold aH
 by_cases h33:bt s i=33
 ·simp only[h33,if_true] at h ⊢
  have hp:bu s (i+1)=3:=by simpa using h
  have g:cd s i 2 (i+1) 5:=.step (by simp[a9,b6,h33,vh])
  have:=g.trans (vP (q:=5) (fun c hc=>by simp[a9,b6,hc]) hp)
  rwa [show i+(1+bu s (i+1))=i+1+bu s (i+1) by omega]
 ·by_cases hc:aR (bt s i)=true
  ·simp only[h33,hc,if_false,if_true] at h ⊢
   exact vP (q:=2) (fun c hc=>by simp[a9,b6,hc]) (by simpa using h)
  ·simp only[h33,hc,if_false] at h ⊢
   exact Cb (by simpa using hc) h33 (by simpa using h)
theorem Dg {s:ByteArray}{i:Nat}(h:b7 s i=false):gt s i 2 (i+aH s i):=by
 unfold b7 at h;unfold aH
 by_cases h33:bt s i=33
 ·simp only[h33,if_true] at h ⊢
  have g:cd s i 2 (i+1) 5:=.step (by simp[a9,b6,h33,vh])
  have:=gt.after g (sf (q:=5) (fun c hc=>by simp[a9,b6,hc]) (by omega) (fun hc=>by simp[a9,b6,hc]) (by simpa using h))
  rwa [show i+(1+bu s (i+1))=i+1+bu s (i+1) by omega]
 ·by_cases hc:aR (bt s i)=true
  ·simp only[h33,hc,if_false,if_true] at h ⊢
   exact sf (q:=2) (fun c hc=>by simp[a9,b6,hc]) (by omega) (fun hx=>by rw[hc] at hx;cases hx) (by simpa using h)
  ·simp only[h33,hc,if_false] at h ⊢
   exact zW (by simpa using hc) h33 (by simpa using h)
theorem CP {s:ByteArray}{i:Nat}(h:¬i<s.size):bt s i=0:=oh h
theorem uK {s:ByteArray}{i:Nat}{L:List Nat}{j:Nat}{ok:Bool}(h:jz s i L j ok):(ok=true→cd s i 2 j 9)∧(ok=false→gt s i 2 j):=by
 refine jz.ind (M:=fun i L j ok=>(ok=true→cd s i 2 j 9)∧(ok=false→gt s i 2 j)) ?_ ?_ ?_ ?_ ?_ h
 ·intro _ h
  exact⟨fun h=>(by cases h),fun _=>.here (cd.refl _ _ _) (by omega) (by rw[CP h];decide)⟩
 ·intro _ _ h
  exact⟨fun h=>(by cases h),fun _=>Dg h⟩
 ·intro _ _ h he
  exact⟨fun _=>(oW h).snoc (by rw[he];decide),fun h=>(by cases h)⟩
 ·intro _ _ h h1 h2
  exact⟨fun h=>(by cases h),fun _=>.here (oW h) (by omega) (by simp[a9,b6,h1,h2])⟩
 ·intro _ _ _ _ _ h h1 _ ih
  have g:=(oW h).snoc (q'':=2) (by rw[h1];decide)
  exact⟨fun e=>g.trans (ih.1 e),fun e=>.after g (ih.2 e)⟩
theorem mU {s:ByteArray}{i:Nat}{q a b:Int}(h1:∀ c,bd c=true→a9 q c=a)(h2:∀ c,fe c=true→a9 a c=b)(h:bd (bt s i)=true):
  (fe (bt s (i+1))=true∧cd s i q (c9 s i) b)∨(fe (bt s (i+1))=false∧c9 s i=i+1∧cd s i q (c9 s i) a):=by
 have g:cd s i q (i+1) a:=.step (h1 _ h)
 unfold c9
 by_cases ht:fe (bt s (i+1))=true
 ·left;simp only[ht,if_true];exact⟨trivial,g.snoc (h2 _ ht)⟩
 ·have ht':fe (bt s (i+1))=false:=by simpa using ht
  right;simp only[ht',Bool.false_eq_true,if_false];exact⟨trivial,trivial,g⟩
theorem Fb {c:Int}(h:bd c=true):fe c=false:=by
 simp only[bd,bM,ex,Bool.or_eq_true,decide_eq_true_eq] at h
 simp only[fe,Bool.or_eq_false_iff,beq_eq_false_iff_ne]
 omega
def Fk (s:ByteArray)(i:Nat)(j:Nat):Prop:=cd s i 9 j 17∨(cd s i 9 j 16∧fe (bt s j)=false)
theorem Da {s:ByteArray}{i:Nat}(h:gq s i=true):cd s i 14 (i+c8 s i) 17∨(cd s i 14 (i+c8 s i) 16∧fe (bt s (i+c8 s i))=false):=by
 simp only[gq,Bool.and_eq_true] at h
 obtain⟨h0,h1⟩:=h
 have hj:=ew s (i+1)
 have e:i+c8 s i=c9 s (i+1):=by simp[c8,h0,h1];omega
 rw[e]
 have g1:cd s i 14 (i+1) 15:=.step (by simp[a9,dM,h0])
 rcases mU (q:=15) (a:=16) (b:=17) (fun c hc=>by simp[a9,dM,hc]) (fun c hc=>by simp[a9,dM,hc]) h1 with ⟨_,g⟩|⟨ht,hjj,g⟩
 ·exact .inl (g1.trans g)
 ·exact .inr ⟨g1.trans g,by rw[hjj];exact ht⟩
theorem zv {s:ByteArray}{i:Nat}(h:gq s i=false):gt s i 14 (i+c8 s i):=by
 unfold gq at h;unfold c8
 split
 ·rename_i h0
  have g1:cd s i 14 (i+1) 15:=.step (by simp[a9,dM,h0])
  split
  ·rename_i h1;simp[h0,h1] at h
  ·rename_i h1;exact .here g1 (by omega) (by simp[a9,dM,h1])
 ·rename_i h0;exact .here (cd.refl _ _ _) (by omega) (by simp[a9,dM,h0])
theorem CQ {s:ByteArray}{i:Nat}(h:fJ s i=true):cd s i 10 (i+cQ s i) 17∨(cd s i 10 (i+cQ s i) 16∧fe (bt s (i+cQ s i))=false):=by
 simp only[fJ,Bool.and_eq_true] at h
 obtain⟨⟨h0,h1⟩,h2⟩:=h
 have hj:=ew s (i+1)
 have hj2:=ew s (c9 s (i+1))
 have e:i+cQ s i=c9 s (c9 s (i+1)):=by simp[cQ,h0,h1,h2];omega
 rw[e]
 have g1:cd s i 10 (i+1) 11:=.step (by simp[a9,dM,h0])
 have g2:cd s i 10 (c9 s (i+1)) 13∨(cd s i 10 (c9 s (i+1)) 12∧fe (bt s (c9 s (i+1)))=false):=by
  rcases mU (q:=11) (a:=12) (b:=13) (fun c hc=>by simp[a9,dM,hc]) (fun c hc=>by simp[a9,dM,hc]) h1 with ⟨_,g⟩|⟨ht,hjj,g⟩
  ·exact .inl (g1.trans g)
  ·exact .inr ⟨g1.trans g,by rw[hjj];exact ht⟩
 rcases g2 with g2|⟨g2,ht⟩
 ·rcases mU (q:=13) (a:=16) (b:=17) (fun c hc=>by simp[a9,dM,hc]) (fun c hc=>by simp[a9,dM,hc]) h2 with ⟨_,g⟩|⟨ht,hjj,g⟩
  ·exact .inl (g2.trans g)
  ·exact .inr ⟨g2.trans g,by rw[hjj];exact ht⟩
 ·rcases mU (q:=12) (a:=16) (b:=17) (fun c hc=>by simp[a9,dM,hc,Fb hc]) (fun c hc=>by simp[a9,dM,hc]) h2 with ⟨_,g⟩|⟨ht,hjj,g⟩
  ·exact .inl (g2.trans g)
  ·exact .inr ⟨g2.trans g,by rw[hjj];exact ht⟩
theorem Ak {s:ByteArray}{i:Nat}(h:fJ s i=false):gt s i 10 (i+cQ s i):=by
 unfold fJ at h;unfold cQ
 split
 ·rename_i h0
  have g1:cd s i 10 (i+1) 11:=.step (by simp[a9,dM,h0])
  split
  ·rename_i h1
   have hj:=ew s (i+1)
   split
   ·rename_i h2;simp[h0,h1,h2] at h
   ·rename_i h2
    rw[show i+(c9 s (i+1) - i)=c9 s (i+1) by omega]
    rcases mU (q:=11) (a:=12) (b:=13) (fun c hc=>by simp[a9,dM,hc]) (fun c hc=>by simp[a9,dM,hc]) h1 with ⟨_,g⟩|⟨ht,hjj,g⟩
    ·exact .here (g1.trans g) (by omega) (by simp[a9,dM,h2])
    ·exact .here (g1.trans g) (by omega) (by rw[←hjj] at ht;simp[a9,dM,h2,ht])
  ·rename_i h1;exact .here g1 (by omega) (by simp[a9,dM,h1])
 ·rename_i h0;exact .here (cd.refl _ _ _) (by omega) (by simp[a9,dM,h0])
theorem sN {s:ByteArray}{i:Nat}(h:cT s i=true):Fk s i (i+aS s i):=by
 unfold cT at h;unfold aS Fk
 by_cases h43:bt s i=43
 ·simp only[h43,if_true] at h ⊢
  have g:cd s i 9 (i+1) 10:=.step (by rw[h43];decide)
  rw[show i+(1+cQ s (i+1))=i+1+cQ s (i+1) by omega]
  rcases CQ h with g2|⟨g2,ht⟩
  ·exact .inl (g.trans g2)
  ·exact .inr ⟨g.trans g2,ht⟩
 ·by_cases h45:bt s i=45
  ·simp only[h45,if_true] at h ⊢
   have g:cd s i 9 (i+1) 14:=.step (by rw[h45];decide)
   simp only[show ¬(45:Int)=43 by decide,if_false] at h ⊢
   rw[show i+(1+c8 s (i+1))=i+1+c8 s (i+1) by omega]
   rcases Da h with g2|⟨g2,ht⟩
   ·exact .inl (g.trans g2)
   ·exact .inr ⟨g.trans g2,ht⟩
  ·simp only[h43,h45,if_false,beq_iff_eq] at h
   simp only[h,if_true,show ¬(46:Int)=43 by decide,show ¬(46:Int)=45 by decide,if_false]
   exact .inl (.step (by rw[h];decide))
theorem DG {s:ByteArray}{i:Nat}(h:cT s i=false):gt s i 9 (i+aS s i):=by
 unfold cT at h;unfold aS
 by_cases h43:bt s i=43
 ·simp only[h43,if_true] at h ⊢
  have g:cd s i 9 (i+1) 10:=.step (by rw[h43];decide)
  rw[show i+(1+cQ s (i+1))=i+1+cQ s (i+1) by omega]
  exact .after g (Ak h)
 ·by_cases h45:bt s i=45
  ·simp only[h45,if_true] at h ⊢
   have g:cd s i 9 (i+1) 14:=.step (by rw[h45];decide)
   simp only[show ¬(45:Int)=43 by decide,if_false] at h ⊢
   rw[show i+(1+c8 s (i+1))=i+1+c8 s (i+1) by omega]
   exact .after g (zv h)
  ·have h46:¬bt s i=46:=by simpa [h43,h45] using h
   simp only[h43,h45,h46,if_false]
   exact .here (cd.refl _ _ _) (by omega) (by simp[a9,dM,h43,h45,h46])
theorem uR {s:ByteArray}{i:Nat}{L:List Nat}{j:Nat}{ok:Bool}(h:jX s i L j ok):(ok=true→cd s i 9 j 0)∧(ok=false→gt s i 9 j):=by
 refine jX.ind (M:=fun i L j ok=>(ok=true→cd s i 9 j 0)∧(ok=false→gt s i 9 j)) ?_ ?_ ?_ ?_ ?_ h
 ·intro _ h
  exact⟨fun h=>(by cases h),fun _=>.here (cd.refl _ _ _) (by omega) (by rw[CP h];decide)⟩
 ·intro _ _ h
  exact⟨fun h=>(by cases h),fun _=>DG h⟩
 ·intro _ _ h he
  refine⟨fun _=>?_,fun h=>(by cases h)⟩
  rcases sN h with g|⟨g,_⟩
  ·exact g.snoc (by rw[he];decide)
  ·exact g.snoc (by rw[he];decide)
 ·intro _ _ h h1 h2
  refine⟨fun h=>(by cases h),fun _=>?_⟩
  rcases sN h with g|⟨g,ht⟩
  ·exact .here g (by omega) (by simp[a9,dM,h1,h2])
  ·exact .here g (by omega) (by simp[a9,dM,h1,h2,ht])
 ·intro i' _ _ _ _ h h1 _ ih
  have g:cd s i' 9 (i'+aS s i'+1) 9:=by
   rcases sN h with g|⟨g,_⟩
   ·exact g.snoc (by rw[h1];decide)
   ·exact g.snoc (by rw[h1];decide)
  exact⟨fun e=>g.trans (ih.1 e),fun e=>.after g (ih.2 e)⟩
theorem vK {s:ByteArray}{i:Nat}{L K:List Nat}{j:Nat}{ok:Bool}(hi:i<s.size)(h:rf s i L K j ok):(ok=true→cd s i 0 j 0)∧(ok=false→gt s i 0 j):=by
 rcases h with ⟨h,_,_,rfl,rfl⟩|⟨h,h1,_,_,rfl,rfl⟩|⟨h,h1,hc,_,rfl⟩|⟨j1,h,h1,hc,ha⟩
 ·exact⟨fun h=>(by cases h),fun _=>⟨0,cd.refl _ _ _,by omega,by simp[a9,b6,h],fun _=>hi⟩⟩
 ·exact⟨fun h=>(by cases h),fun _=>.here (.step (q':=1) (by simp[a9,b6,h])) (by omega) (by simp[a9,b6,h1])⟩
 ·have g:cd s i 0 (i+2) 2:=(cd.step (q':=1) (by simp[a9,b6,h])).snoc (by rw[h1];decide)
  exact⟨fun h=>(by cases h),fun _=>.after g ((uK hc).2 rfl)⟩
 ·have g:cd s i 0 (i+2) 2:=(cd.step (q':=1) (by simp[a9,b6,h])).snoc (by rw[h1];decide)
  have g2:=g.trans ((uK hc).1 rfl)
  exact⟨fun e=>g2.trans ((uR ha).1 e),fun e=>.after g2 ((uR ha).2 e)⟩
theorem pV {s:ByteArray}{i:Nat}{R:List ay}{j:Nat}{ok:Bool}(h:kW s i R j ok):(ok=true→cd s i 0 j 0∧¬j<s.size)∧(ok=false→gt s i 0 j):=by
 refine kW.ind (M:=fun i R j ok=>(ok=true→cd s i 0 j 0∧¬j<s.size)∧(ok=false→gt s i 0 j)) ?_ ?_ ?_ h
 ·intro _ h
  exact⟨fun _=>⟨cd.refl _ _ _,h⟩,fun h=>(by cases h)⟩
 ·intro _ _ _ _ hi h
  exact⟨fun h=>(by cases h),fun _=>(vK hi h).2 rfl⟩
 ·intro _ _ _ _ _ _ _ hi h _ ih
  have g:=(vK hi h).1 rfl
  exact⟨fun e=>⟨g.trans (ih.1 e).1,(ih.1 e).2⟩,fun e=>.after g (ih.2 e)⟩
theorem Bs (c:Int):a9 (-1) c=-1:=by simp[a9,b6]
theorem xO (q:Int):a9 q 0=-1:=by
 have h1:bM 0=false:=by decide
 have h2:aR 0=false:=by decide
 have h3:bd 0=false:=by decide
 have h4:c7 0=false:=by decide
 have h5:fe 0=false:=by decide
 simp[a9,b6,dM,h1,h2,h3,h4,h5]
theorem kO (s:ByteArray):∀ (n:Nat) (i:Nat),fN s n (-1) i=-1
 |0,_=>rfl
 |n+1,i=>by simp only[fN,Bs];exact kO s n _
theorem kZ (s:ByteArray)(n:Nat)(h:0≤fN s n 0 0):n≤s.size:=by
 by_cases hn:n≤s.size
 ·exact hn
 ·have e:n=(s.size+1)+(n - s.size - 1):=by omega
  rw[e,iR,iI,oh (by omega),xO,kO] at h
  omega
theorem yd {s:ByteArray}{j:Nat}(h:gt s 0 0 j){p:Int}(hp:pg s p):p=j:=by
 obtain⟨q,⟨n,hn,hq⟩,h0,h1,h2⟩:=h
 have hn:n=j:=by omega
 subst hn
 have hjs:n≤s.size:=kZ s n (by rw[hq];exact h0)
 have hdead:∀ m,n<m→fN s m 0 0=-1:=by
  intro m hm
  rw[show m=(n+1)+(m - n - 1) by omega,iR,iI,hq,Nat.zero_add,h1,kO]
 rcases hp with ⟨_,h⟩|⟨k,rfl,hk,h3,h4,h5⟩
 ·by_cases e:n=s.size
  ·rw[←e,hq] at h
   have:=h2 h
   omega
  ·rw[hdead s.size (by omega)] at h
   omega
 ·rcases Nat.lt_trichotomy k n with hlt|he|hgt
  ·have hx:=h4 (by omega)
   have:fN s n 0 0=-1:=by rw[show n=(k+1)+(n - k - 1) by omega,iR,iI,Nat.zero_add,hx,kO]
   omega
  ·rw[he]
  ·rw[hdead k hgt] at h3
   omega
theorem w9 {s:ByteArray}{j:Nat}(h:cd s 0 0 j 0)(hj:¬j<s.size){p:Int}(hp:pg s p):p=-1∧j=s.size:=by
 obtain⟨n,hn,hq⟩:=h
 have hn:n=j:=by omega
 subst hn
 have hjs:n≤s.size:=kZ s n (by rw[hq];omega)
 have e:n=s.size:=by omega
 subst e
 refine⟨?_,rfl⟩
 rcases hp with ⟨h,_⟩|⟨k,rfl,hk,h3,h4,h5⟩
 ·exact h
 ·by_cases e:k=s.size
  ·exact absurd (by rw[e];exact hq) (h5 e)
  ·have hx:=h4 (by omega)
   have:fN s s.size 0 0=-1:=by rw[show s.size=(k+1)+(s.size - k - 1) by omega,iR,iI,Nat.zero_add,hx,kO]
   omega
end Go.Proofs.YthlhbjnkohinmaaGreat
