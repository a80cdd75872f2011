import Derived.Test.YthlhbjnkohinmaaGreatP07
import Derived.Test.YthlhbjnkohinmaaGreatP05
namespace Go.Proofs.YthlhbjnkohinmaaGreat
set_option maxRecDepth 100000
set_option maxHeartbeats 8000000
open Go.RowKit
theorem BY {w:World}{base:Nat}{e:TypeId}{a:Option Addr}{m c n i:Nat}{xs:List Value}(h:w.ownsRow base e 1 (.slice a m c) n xs)(hi:i≤n):w.ownsRow base e 1 (.slice a i c) i (xs.take i):=by
 obtain⟨h1,h2⟩:=h
 refine⟨by simp[h1];omega,?_⟩
 rcases h2 with ⟨hv,h0⟩|⟨g,cap,cur,hv,hb,hh,hn,hm,hc,ht⟩
 ·cases hv
  left;exact⟨by rw[show i=0 by omega],by omega⟩
 ·cases hv
  right
  refine⟨g,_,cur,rfl,hb,hh,by omega,hm,hc,?_⟩
  rw[←ht,List.take_take]
  congr 1
  omega
theorem sU {w:World}{base:Nat}{e:TypeId}{size:Nat}{a:Option Addr}{m c n:Nat}{xs:List Value}(h:w.ownsRow base e size (.slice a m c) n xs):n≤c:=by
 rcases h.2 with ⟨hv,h0⟩|⟨g,cap,cur,hv,hb,hh,hn,_⟩
 ·omega
 ·cases hv;exact hn
def pj (s:ByteArray)(L:List Nat)(k:Nat):Bool:=aR (bt s (L.getD k 0))||cX s (L.take k) (L.getD k 0) (aH s (L.getD k 0))
def kA (s:ByteArray)(L:List Nat)(n:Nat):Bool:=(List.range n).all fun k=>pj s L k
theorem ji (s:ByteArray)(L:List Nat)(n:Nat):kA s L (n+1)=(kA s L n&&pj s L n):=by
 unfold kA;rw[List.range_succ,List.all_append];simp
theorem tH {s:ByteArray}{L:List Nat}{n m:Nat}(h:kA s L n=false)(hm:n≤m):kA s L m=false:=by
 induction m with
 |zero=>rw[show n=0 by omega] at h;exact h
 |succ m ih=>
  by_cases e:n=m+1
  ·rw[←e];exact h
  ·rw[ji,ih (by omega)];rfl
def mb (s:ByteArray)(L K:List Nat):Bool:=K.all fun p=>cX s L p (aS s p)
def ku (s:ByteArray)(L K:List Nat):Bool:=kA s L L.length&&mb s L K
theorem BG (s:ByteArray)(L K:List Nat)(x:Int)(a a2:Option Addr)(m c m2 c2 B:Nat)(w:World)(hs:s.size≤400)(hL:∀ p∈L,b7 s p=true)(hK:∀ p∈K,p+aS s p≤s.size)(hlen:L.length≤400)(hlenK:K.length≤400)
  (h:w.ownsRow B 9 1 (.slice a m c) L.length (dL s L)) (h2:w.ownsRow B 9 1 (.slice a2 m2 c2) K.length (gF s K)) :
  Calls Tryz.prog 79 #[.agg #[.int .i64 x,.slice a m c,.slice a2 m2 c2]] w fun e w'=>e=.returned (.bool (ku s L K))∧w.grownBy w' none:=by
 have e1:=ar h
 have e2:=ar h2
 subst e1 e2
 have HL:=af hL
 have HK:=af hK
 clear hL hK
 obtain⟨q,hq⟩:∃ q,q=ku s L K:=⟨_,rfl⟩
 rw[←hq]
 have HQ:=af hq
 clear hq
 have hw0:∃ w0,w0=w.alloc (.cells #[.int .i64 x,.slice a L.length c,.slice a2 K.length c2] 155):=⟨_,rfl⟩
 obtain⟨w0,hw0⟩:=hw0
 have h':w0.ownsRow B 9 1 (.slice a L.length c) L.length (dL s L):=by rw[hw0];exact h.alloc _
 have h2':w0.ownsRow B 9 1 (.slice a2 K.length c2) K.length (gF s K):=by rw[hw0];exact h2.alloc _
 have d1:w0.cell? ⟨w.heap.size,1,none⟩=some (.slice a L.length c):=by rw[hw0];simp[go_sem]
 have d2:w0.cell? ⟨w.heap.size,2,none⟩=some (.slice a2 K.length c2):=by rw[hw0];simp[go_sem]
 have HG0:Hid (w.grownBy w0 none):=af (by rw[hw0];exact ab (ag _ _) _)
 have HW0:=af hw0
 have D1:=af d1
 have D2:=af d2
 clear hw0 h h2
 go_enter Tryz.func79,Tryz.ntmps79
 go_wp2_with fail
 rw[←HW0.out]
 clear HW0
 go_loopw [3] (fun t wr=>∃ (k:Nat),k≤L.length∧t=.int .i64 k∧wr.heap=w0.heap∧w.grownBy wr none∧kA s L k=true) (fun t _=>L.length - (intOf t).toNat)
 case atStart=>exact⟨0,Nat.zero_le _,rfl,rfl,HG0.out,rfl⟩
 case round=>
  obtain⟨k,hk,rfl,hhp,hgr,hno⟩:=hrel
  have HN:=af hno
  have HHP:=af hhp
  have d1:=(iO hhp _).trans d1
  have d2:=(iO hhp _).trans d2
  clear hno hhp
  by_cases hlt:k<L.length
  ·obtain⟨g,rfl,_,hgb,hgl,hcell⟩:=aE h' (by omega)
   have hok:=HL.out L[k] (List.getElem_mem hlt)
   obtain⟨p3,ps,p4⟩:=sY hok
   have hce:w0.cell? ⟨g,k,none⟩=some (.string (s.extract L[k] (L[k]+aH s L[k]))):=hcell k _ (by simp[dL,hlt])
   replace hce:=(iO HHP.out _).trans hce
   clear hcell
   have hpre:=BY h' (i:=k) (by omega)
   rw[show (dL s L).take k=dL s (L.take k) by simp[dL,List.map_take]] at hpre
   have hlk:(L.take k).length=k:=by simp;omega
   have HBD:Hid (∀ W:World,W.heap=w0.heap→Calls Tryz.prog 108 #[.slice (some ⟨g,0,none⟩) k c,.string (s.extract L[k] (L[k]+aH s L[k]))] W fun e w'=>e=.returned (.bool (cX s (L.take k) L[k] (aH s L[k])))∧w'=W):=af (fun W hW=>
    (sB s (L.take k) L[k] (aH s L[k]) (some ⟨g,0,none⟩) k c B W ps hs (fun p hp=>HL.out p (List.mem_of_mem_take hp)) (by omega) (by rw[hlk];exact dx hpre hW)).mono fun _ _ ⟨h1,h2⟩=>⟨h1,h2.symm⟩)
   have HT:=af (ji s L k)
   have hgd:L.getD k 0=L[k]:=by simp[List.getD,hlt]
   rw[HN.out,Bool.true_and,pj,hgd] at HT
   obtain⟨u,hu⟩:∃ u,u=s.extract L[k] (L[k]+aH s L[k]):=⟨_,rfl⟩
   rw[←hu] at hce HBD
   have v0:bt u 0=bt s L[k]:=by rw[hu,ki ps (by omega)];rfl
   have u0:0<u.size:=by rw[hu,dd ps];omega
   have HPT:=af (fun W=>ia u W u0)
   rw[v0] at HPT
   clear v0 hu hok p3 ps p4 hpre hgd u0 hlk
   obtain⟨bb,hbb⟩:∃ bb,bb=cX s (L.take k) L[k] (aH s L[k]):=⟨_,rfl⟩
   obtain⟨cc,hcc⟩:∃ cc,cc=aR (bt s L[k]):=⟨_,rfl⟩
   rw[←hbb] at HBD HT
   rw[←hcc] at HPT HT
   clear hbb hcc
   go_wp2_with (go_at_call 107;refine (HPT.out _).mono ?_;rintro e w' ⟨rfl,rfl⟩)
   have hcap:=sU h'
   have hkc:k≤c:=by omega
   have hki:(k:Int)≤c:=by omega
   go_quiet ((go_at_call 108;exact Calls.quiet_of_same (HBD.out _ HHP.out)))
   cases cc with
   |true=>
    go_wp2
    go_roundw
    case rel=>exact⟨k+1,by omega,by go_num,HHP.out,al hgr _,by rw[HT.out];rfl⟩
    case measure=>simp[intOf];omega
   |false=>
    cases bb with
    |true=>
     go_wp2
     go_roundw
     case rel=>exact⟨k+1,by omega,by go_num,HHP.out,al hgr _,by rw[HT.out];rfl⟩
     case measure=>simp[intOf];omega
    |false=>
     have HU:Hid (q=false):=af (by rw[HQ.out,ku,tH (n:=k+1) (by rw[HT.out];rfl) (by omega)];rfl)
     go_wp2
     go_ret
     exact⟨c7 HU.out.symm,al hgr _⟩
  ·have HN':Hid (q=mb s L K):=af (by
    rw[HQ.out,ku]
    have:=HN.out
    rw[show k=L.length by omega] at this
    rw[this];rfl)
   clear HN
   go_wp2_with fail
   go_loopw [6] (fun t wr=>∃ (k:Nat),k≤K.length∧t=.int .i64 k∧wr.heap=w0.heap∧w.grownBy wr none∧mb s L (K.take k)=true) (fun t _=>K.length - (intOf t).toNat)
   case atStart=>exact⟨0,Nat.zero_le _,rfl,HHP.out,hgr,rfl⟩
   case round=>
    clear HHP hgr d1 d2
    obtain⟨k',hk',rfl,hhp,hgr,hno⟩:=hrel
    have HN:=af hno
    have HHP:=af hhp
    have d1:=(iO hhp _).trans D1.out
    have d2:=(iO hhp _).trans D2.out
    clear hno hhp
    by_cases hlt':k'<K.length
    ·obtain⟨g,rfl,_,hgb,hgl,hcell⟩:=aE h2' (by omega)
     have ps:=HK.out K[k'] (List.getElem_mem hlt')
     have hce:w0.cell? ⟨g,k',none⟩=some (.string (s.extract K[k'] (K[k']+aS s K[k']))):=hcell k' _ (by simp[gF,hlt'])
     replace hce:=(iO HHP.out _).trans hce
     clear hcell
     have HBD:Hid (∀ W:World,W.heap=w0.heap→Calls Tryz.prog 108 #[.slice a L.length c,.string (s.extract K[k'] (K[k']+aS s K[k']))] W fun e w'=>e=.returned (.bool (cX s L K[k'] (aS s K[k'])))∧w'=W):=af (fun W hW=>
      (sB s L K[k'] (aS s K[k']) a L.length c B W ps hs HL.out hlen (dx h' hW)).mono fun _ _ ⟨h1,h2⟩=>⟨h1,h2.symm⟩)
     have HT:Hid (mb s L (K.take (k'+1))=cX s L K[k'] (aS s K[k'])):=af (by
      have:=HN.out
      unfold mb at this ⊢
      rw[List.take_succ_eq_append_getElem hlt',List.all_append,this];simp)
     obtain⟨u,hu⟩:∃ u,u=s.extract K[k'] (K[k']+aS s K[k']):=⟨_,rfl⟩
     rw[←hu] at hce HBD
     obtain⟨bb,hbb⟩:∃ bb,bb=cX s L K[k'] (aS s K[k']):=⟨_,rfl⟩
     rw[←hbb] at HBD HT
     clear hu hbb ps
     go_wp2_with fail
     go_quiet ((go_at_call 108;exact Calls.quiet_of_same (HBD.out _ HHP.out)))
     cases bb with
     |true=>
      go_wp2
      go_roundw
      case rel=>exact⟨k'+1,by omega,by go_num,HHP.out,al hgr _,HT.out⟩
      case measure=>simp[intOf];omega
     |false=>
      have HU:Hid (q=false):=af (by
       rw[HN'.out]
       have:=HT.out
       unfold mb at this ⊢
       rw[←List.take_append_drop (k'+1) K,List.all_append,this];rfl)
      go_wp2
      go_ret
      exact⟨c7 HU.out.symm,al hgr _⟩
    ·have HU:Hid (q=true):=af (by
      rw[HN'.out]
      have:=HN.out
      rwa [List.take_of_length_le (by omega)] at this)
     go_wp2
     go_ret
     exact⟨c7 HU.out.symm,hgr⟩
theorem yT {c:Int}(h:ex c=true):dy c=2∧dE c=c - 119∧119≤c∧c≤122:=by
 have h1:119≤c∧c≤122:=by simpa [ex] using h
 have h2:bN c=false:=by simp[bN];omega
 exact⟨by simp[dy,h,h2],by simp[dE,h,h2],h1.1,h1.2⟩
theorem r7 {c:Int}(h:ex c=false):¬dy c=2:=by
 unfold dy
 split
 ·omega
 ·simp[h]
def t6 (s:ByteArray)(L:List Nat)(bs:Nat→Bool):Prop:=∀ n:Nat,n<4→bs n=fE s L (119+n)
theorem zg (bs:Nat→Bool)(c:Int)(n:Nat)(hn:n<4):je bs (dy c) (dE c) n=(bs n||(c==119+(n:Int))):=by
 unfold je
 cases hl:ex c with
 |true=>
  obtain⟨e1,e2,h1,h2⟩:=yT hl
  rw[e1,e2]
  simp only[decide_true,Bool.true_and]
  congr 1
  rw[Bool.eq_iff_iff]
  simp only[decide_eq_true_eq,beq_iff_eq]
  omega
 |false=>
  have:=r7 hl
  have h1:¬(119≤c∧c≤122):=by simpa [ex] using hl
  have h2:(c==119+(n:Int))=false:=by simp;omega
  simp[this,h2]
theorem i7 {s:ByteArray}{L:List Nat}{bs:Nat→Bool}(hf:t6 s L bs)(c:Int):fe bs (dy c) (dE c)=!(cj s L c):=by
 unfold fe cj
 cases hl:ex c with
 |true=>
  obtain⟨e1,e2,h1,h2⟩:=yT hl
  rw[e1,e2,hf (c - 119).toNat (by omega),show (119:Int)+((c - 119).toNat:Int)=c by omega]
  simp
 |false=>
  simp[r7 hl]
theorem kT {s:ByteArray}{p:Nat}(_h:b7 s p=true):(dj s p).k=1↔aR (bt s p)=true:=by
 unfold dj
 by_cases h33:bt s p=33
 ·simp only[h33,if_true,l4]
  constructor
  ·intro h;omega
  ·intro h;exact absurd h (by decide)
 ·by_cases hc:aR (bt s p)=true
  ·simp[h33,hc,l4]
  ·simp[h33,hc,rp]
theorem tW {s:ByteArray}{L:List Nat}(h:∀ p∈L,b7 s p=true):bM s L=ez s L:=by
 unfold bM ez
 congr 1
 apply List.filter_congr
 intro p hp
 have:=kT (h p hp)
 rw[Bool.eq_iff_iff]
 simpa using this
theorem B7 {s:ByteArray}{L:List Nat}{bs:Nat→Bool}{p:Nat}(hf:t6 s L bs)(_h:b7 s p=true)(hc:aR (bt s p)=true):t6 s (L++[p]) (vF s p bs):=by
 intro n hn
 have h33:¬bt s p=33:=by intro e;rw[e] at hc;exact absurd hc (by decide)
 have e:dj s p=l4 1 s p:=by simp[dj,h33,hc]
 unfold vF
 rw[e]
 simp only[l4]
 rw[zg _ _ n hn,zg _ _ n hn,hf n hn]
 unfold fE
 rw[List.any_append]
 simp[hc,Bool.or_assoc]
theorem Bv {s:ByteArray}{L:List Nat}{bs:Nat→Bool}{p:Nat}(hf:t6 s L bs)(hc:aR (bt s p)=false):t6 s (L++[p]) bs:=by
 intro n hn
 rw[hf n hn]
 unfold fE
 rw[List.any_append]
 simp[hc]
theorem tL {s:ByteArray}{L:List Nat}{c:Int}(h:aR c=true):cj s L c=true:=by
 have h1:97≤c∧c≤102:=by simpa [aR] using h
 have:ex c=false:=by simp[ex];omega
 simp[cj,this]
theorem D7 {s:ByteArray}{L:List Nat}{c:Int}(h:gE c=true):cj s L c=true:=by
 have h1:(c=60∨c=61)∨c=35:=by simpa [gE] using h
 have:ex c=false:=by simp[ex];omega
 simp[cj,this]
theorem Fd {s:ByteArray}{L:List Nat}{c:Int}(h:ff c=true):cj s L c=true:=by
 have h1:c=94∨c=126:=by simpa [ff] using h
 have:ex c=false:=by simp[ex];omega
 simp[cj,this]
theorem Gg (s:ByteArray)(L:List Nat)(p:Nat):cX s L p 3=(cj s L (bt s p)&&cj s L (bt s (p+1))&&cj s L (bt s (p+2))):=by
 rw[ci,ci,ci];simp[cX]
theorem Gk (s:ByteArray)(L:List Nat)(p:Nat):cX s L p 4=(cj s L (bt s p)&&cj s L (bt s (p+1))&&cj s L (bt s (p+2))&&cj s L (bt s (p+3))):=by
 rw[ci,Gg]
theorem Ek {s:ByteArray}{i:Nat}(h:bz s i=3):aR (bt s i)=true:=by
 unfold bz at h;split at h
 ·assumption
 ·omega
theorem Ea {s:ByteArray}{i:Nat}(h:bT s i=3):gE (bt s (i+1))=true:=by
 unfold bT at h;split at h
 ·split at h
  ·assumption
  ·omega
 ·omega
theorem ET {s:ByteArray}{L:List Nat}{bs:Nat→Bool}{p:Nat}(hf:t6 s L bs)(h:b7 s p=true)(hc:aR (bt s p)=false):ij s p bs=!(cX s L p (aH s p)):=by
 unfold ij
 by_cases h33:bt s p=33
 ·have hp:bz s (p+1)=3:=by simpa [b7,h33] using h
  have e:dj s p=l4 2 s (p+1):=by simp[dj,h33]
  have el:aH s p=4:=by simp[aH,h33,hp]
  have h0:cj s L 33=true:=by simp[cj,show ex 33=false by decide]
  rw[e,el,Gk]
  simp only[l4]
  rw[i7 hf,i7 hf,h33,h0,tL (Ek hp)]
  simp[show p+1+1=p+2 by omega,show p+1+2=p+3 by omega,Bool.not_and]
 ·have hp:bT s p=3:=by simpa [b7,h33,hc] using h
  have e:dj s p=rp s p:=by simp[dj,h33,hc]
  have el:aH s p=3:=by simp[aH,h33,hc,hp]
  rw[e,el,Gg]
  simp only[rp]
  rw[i7 hf,i7 hf,D7 (Ea hp)]
  simp[Bool.not_and]
theorem qK {s:ByteArray}{L:List Nat}{p n:Nat}:cX s L p (n+(db s (p+n) - (p+n)))=(cX s L p n&&cj s L (bt s (p+n))):=by
 unfold db
 split
 ·rename_i ht
  rw[show n+(p+n+2 - (p+n))=n+1+1 by omega,ci,ci,show p+(n+1)=p+n+1 by omega,Fd ht,Bool.and_true]
 ·rw[show n+(p+n+1 - (p+n))=n+1 by omega,ci]
theorem yZ {s:ByteArray}{L:List Nat}{bs:Nat→Bool}{p:Nat}(hf:t6 s L bs)(h:cT s p=true):ju s p bs=!(cX s L p (aS s p)):=by
 unfold ju
 have hsm:∀ c:Int,ex c=false→cj s L c=true:=fun c hc=>by simp[cj,hc]
 unfold cT at h
 by_cases h43:bt s p=43
 ·simp only[h43,if_true] at h
  have hh:=h
  simp only[fJ,Bool.and_eq_true] at h
  obtain⟨⟨h0,h1⟩,h2⟩:=h
  have hj:=eB s (p+2)
  have hj2:=eB s (db s (p+2))
  have e:eh s p=wK s (p+1):=by simp[eh,h43]
  have e1:db s (p+1+1)=db s (p+2):=rfl
  have el:aS s p=(2+(db s (p+2) - (p+2)))+(db s (db s (p+2)) - db s (p+2)):=by
   simp only[aS,h43,if_true,cR,h0,h1,h2,e1];omega
  have hb:cX s L p (aS s p)=(cj s L (bt s (p+2))&&cj s L (bt s (db s (p+2)))):=by
   have x1:=qK (s:=s) (L:=L) (p:=p) (n:=2)
   have x2:=qK (s:=s) (L:=L) (p:=p) (n:=2+(db s (p+2) - (p+2)))
   rw[show p+(2+(db s (p+2) - (p+2)))=db s (p+2) by omega] at x2
   rw[el,x2,x1,ci,ci,Nat.add_zero,h43,hsm 43 (by decide),tL h0]
   simp[cX]
  rw[hb,e]
  simp only[wK]
  rw[i7 hf,i7 hf]
  simp only[Bool.not_and,e1]
 ·by_cases h45:bt s p=45
  ·simp only[h45,if_true,show ¬(45:Int)=43 by decide,if_false] at h
   simp only[gm,Bool.and_eq_true] at h
   obtain⟨h0,h1⟩:=h
   have hj:=eB s (p+2)
   have e:eh s p=wo s (p+1):=by simp[eh,h45]
   have e1:db s (p+1+1)=db s (p+2):=rfl
   have el:aS s p=2+(db s (p+2) - (p+2)):=by
    simp only[aS,h45,if_true,show ¬(45:Int)=43 by decide,if_false,da,h0,h1,e1];omega
   have hb:cX s L p (aS s p)=cj s L (bt s (p+2)):=by
    rw[el,qK,ci,ci,Nat.add_zero,h45,hsm 45 (by decide),tL h0]
    simp[cX]
   rw[hb,e]
   simp only[wo]
   rw[i7 hf]
   simp[fe]
  ·have h46:bt s p=46:=by simpa [h43,h45] using h
   have e:eh s p=⟨3,0,0,0,0,0,0,0⟩:=by simp[eh,h43,h45]
   have el:aS s p=1:=by simp[aS,h46]
   rw[el,e,ci,Nat.add_zero,h46,hsm 46 (by decide)]
   simp[fe,cX]
theorem pZ {s:ByteArray}{L:List Nat}(hL:∀ p∈L,b7 s p=true):∀ n,n≤L.length→(∃ bs,ce s (L.take n) (fun _=>false)=some bs∧t6 s (L.take n) bs∧kA s L n=true)∨(ce s (L.take n) (fun _=>false)=none∧kA s L n=false)
 |0,_=>.inl ⟨_,rfl,fun n _=>rfl,rfl⟩
 |n+1,h=>by
  have hlt:n<L.length:=by omega
  have hok:=hL L[n] (List.getElem_mem hlt)
  have hgd:L.getD n 0=L[n]:=by simp[List.getD,hlt]
  have ht:L.take (n+1)=L.take n++[L[n]]:=List.take_succ_eq_append_getElem hlt
  rcases pZ hL n (by omega) with ⟨bs,h1,h2,h3⟩|⟨h1,h2⟩
  ·rw[js hlt h1,ji,h3,Bool.true_and,pj,hgd]
   by_cases hc:aR (bt s L[n])=true
   ·rw[if_pos ((kT hok).mpr hc)]
    exact .inl ⟨_,rfl,by rw[ht];exact B7 h2 hok hc,by simp[hc]⟩
   ·have hc':aR (bt s L[n])=false:=by simpa using hc
    rw[if_neg (fun e=>hc ((kT hok).mp e)),ET h2 hok hc',hc',Bool.false_or]
    cases hb:cX s (L.take n) L[n] (aH s L[n]) with
    |true=>exact .inl ⟨bs,rfl,by rw[ht];exact Bv h2 hc',rfl⟩
    |false=>exact .inr ⟨rfl,rfl⟩
  ·right
   constructor
   ·rw[ht,eV,h1];rfl
   ·rw[ji,h2];rfl
theorem AP {s:ByteArray}{L K:List Nat}(hL:∀ p∈L,b7 s p=true)(hK:∀ p∈K,cT s p=true):l9 s L K=!(ku s L K):=by
 unfold l9 ku
 rcases pZ hL L.length (Nat.le_refl _) with ⟨bs,h1,h2,h3⟩|⟨h1,h2⟩
 ·rw[List.take_of_length_le (Nat.le_refl _)] at h1 h2
  rw[h1,h3]
  simp only[Bool.true_and]
  unfold ix mb
  rw[Bool.eq_iff_iff]
  simp only[List.any_eq_true,Bool.not_eq_true',List.all_eq_false]
  constructor
  ·rintro⟨p,hp,hx⟩
   exact⟨p,hp,by rw[yZ h2 (hK p hp)] at hx;simpa using hx⟩
  ·rintro⟨p,hp,hx⟩
   exact⟨p,hp,by rw[yZ h2 (hK p hp)];simpa using hx⟩
 ·rw[List.take_of_length_le (Nat.le_refl _)] at h1
  rw[h1,h2];rfl
theorem lG {s:ByteArray}{i:Nat}{L:List Nat}{j:Nat}{ok:Bool}(h:jA s i L j ok):ok=true→∀ p∈L,b7 s p=true:=by
 refine jA.ind (M:=fun i L j ok=>ok=true→∀ p∈L,b7 s p=true) ?_ ?_ ?_ ?_ ?_ h
 ·intro _ _
  intro h;cases h
 ·intro _ _ _
  intro h;cases h
 ·intro _ _ h _
  intro _ p hp;rw[List.mem_singleton.mp hp];exact h
 ·intro _ _ _ _ _
  intro h;cases h
 ·intro _ _ _ _ _ h _ _ ih
  intro e p hp
  rcases List.mem_cons.mp hp with rfl|hp
  ·exact h
  ·exact ih e p hp
theorem yF {s:ByteArray}{i:Nat}{L:List Nat}{j:Nat}{ok:Bool}(h:jY s i L j ok):ok=true→∀ p∈L,cT s p=true∧p+aS s p≤s.size:=by
 refine jY.ind (M:=fun i L j ok=>ok=true→∀ p∈L,cT s p=true∧p+aS s p≤s.size) ?_ ?_ ?_ ?_ ?_ h
 ·intro _ _
  intro h;cases h
 ·intro _ _ _
  intro h;cases h
 ·intro _ hi h _
  intro _ p hp;rw[List.mem_singleton.mp hp];exact⟨h,mV hi⟩
 ·intro _ _ _ _ _
  intro h;cases h
 ·intro _ _ _ _ hi h _ _ ih
  intro e p hp
  rcases List.mem_cons.mp hp with rfl|hp
  ·exact⟨h,mV hi⟩
  ·exact ih e p hp
theorem D6 {s:ByteArray}{i:Nat}{L:List Nat}{j:Nat}{ok:Bool}(h:jA s i L j ok):ok=true→i+L.length≤j:=by
 refine jA.ind (M:=fun i L j ok=>ok=true→i+L.length≤j) ?_ ?_ ?_ ?_ ?_ h
 ·intro _ _
  intro h;cases h
 ·intro _ _ _
  intro h;cases h
 ·intro _ _ _ _
  intro _;simp
 ·intro _ _ _ _ _
  intro h;cases h
 ·intro _ _ _ _ _ _ _ _ ih
  intro e;have:=ih e;simp;omega
theorem EC {s:ByteArray}{i:Nat}{L:List Nat}{j:Nat}{ok:Bool}(h:jY s i L j ok):ok=true→i+L.length≤j:=by
 refine jY.ind (M:=fun i L j ok=>ok=true→i+L.length≤j) ?_ ?_ ?_ ?_ ?_ h
 ·intro _ _
  intro h;cases h
 ·intro _ _ _
  intro h;cases h
 ·intro _ _ _ _
  intro _;simp
 ·intro _ _ _ _ _
  intro h;cases h
 ·intro _ _ _ _ _ _ _ _ ih
  intro e;have:=ih e;simp;omega
theorem qz {w w':World}{B:Nat}{s:ByteArray}{R:List ay}{xs:List Value}(h:fZ w B s R xs)(hg:w.grownBy w' none):fZ w' B s R xs:=ie hg (fun g hg=>by cases hg) R xs h
theorem oN {w w':World}{B:Nat}{s:ByteArray}{v:Value}{R:List ay}(h:jz w B s v R)(hg:w.grownBy w' none):jz w' B s v R:=by
 obtain⟨xs,h1,h2⟩:=h
 exact⟨xs,aq h1 hg (fun g hg=>by cases hg),qz h2 hg⟩
theorem fX.lens {s:ByteArray}{r:ay}(h:fX s r)(hs:s.size≤400):r.2.1.length≤400∧r.2.2.length≤400:=by
 have h1:=D6 h.conds rfl
 have h2:=EC h.acts rfl
 have h3:=mY h.acts rfl
 omega
theorem mL {s:ByteArray}{r:ay}(h:fX s r):ip s r.2.1 r.2.2=(decide (5<r.2.1.length)||decide (4<r.2.2.length)||decide (3<ez s r.2.1)):=by
 rw[ip,tW (lG h.conds rfl)]
theorem yO {s:ByteArray}{r:ay}(h:fX s r):l9 s r.2.1 r.2.2=!(ku s r.2.1 r.2.2):=AP (lG h.conds rfl) (fun p hp=>(yF h.acts rfl p hp).1)
def Cl (w:World)(s:ByteArray)(x p:Int)(o:Option (List ay))(e:Ending)(w':World):Prop:=
 ∃ v,e=.returned (.tuple #[v,.int .i64 x,.int .i64 p])∧(∀ R,o=some R→jz w' w.heap.size s v R)∧(o=none→v=.slice none 0 0)∧w.grownBy w' none
theorem kO (s:ByteArray)(R:List ay)(w:World)(x p:Int)(o:Option (List ay))(hs:s.size≤400)(hR:kS s 0 R s.size true)
  (o1:Option Nat) (h1:bK (iY s R) R.length o1) (o2:Option Nat) (h2:bK (jI s R) R.length o2)
  (e1:∀ m,o1=some m→x=3∧p=m∧o=none) (e2:∀ m,o1=none→o2=some m→x=4∧p=m∧o=none) (e3:o1=none→o2=none→x=0∧p=0∧o=some R) :
  Calls Tryz.prog 39 #[.string s] w (Cl w s x p o):=by
 have hall:=(tQ hR rfl).2
 have hlen:=ph hR
 have HALL:=af hall
 have HPL:=af (fun W=>sq s W hs)
 have HRD:=af (fun W=>AK s R W hs hR)
 have HGO:=af ((qS hR).1 rfl)
 have H1:=af h1
 have H2:=af h2
 have E1:=af e1
 have E2:=af e2
 have E3:=af e3
 clear hall hR h1 h2 e1 e2 e3
 go_enter Tryz.func39,Tryz.ntmps39
 go_wp2_with fail
 go_at_call 76
 refine (HPL.out _).mono ?_
 rintro e w' ⟨pp,rfl,hp,rfl⟩
 have hpp:=(xf HGO.out.1 HGO.out.2 hp).1
 subst hpp
 clear hp HPL HGO
 go_wp2_with fail
 go_at_call 77
 refine (HRD.out _).mono ?_
 rintro e w1 ⟨v,rfl,⟨xs,hown,hpar⟩,hg1⟩
 obtain⟨a,m,c,rfl⟩:=an hown
 have em:=ar hown
 subst em
 have HP:=af hpar
 clear HRD hpar
 go_wp2_with fail
 go_loopw [7] (fun t wr=>∃ k:Nat,k≤R.length∧t=.int .i64 k∧w1.grownBy wr none∧∀ j,j<k→¬iY s R j) (fun t _=>R.length - (intOf t).toNat)
 case atStart=>exact⟨0,Nat.zero_le _,rfl,ag _ _,fun j hj=>by omega⟩
 case round=>
  obtain⟨k,hk,rfl,hg,hno⟩:=hrel
  have HN:=af hno
  clear hno
  by_cases hlt:k<R.length
  ·obtain⟨a1,m1,c1,a2,m2,c2,x0,x1,x2,q1,q2⟩:=iE R xs HP.out k hlt
   obtain⟨g,rfl,_,hgb,hgl,hcell⟩:=aE hown (by omega)
   have d0:=hg.cell (hcell _ _ x0) (by simp)
   have d1:=hg.cell (hcell _ _ x1) (by simp)
   have d2:=hg.cell (hcell _ _ x2) (by simp)
   have hok:=HALL.out R[k] (List.getElem_mem hlt)
   have em1:=ar q1
   have em2:=ar q2
   subst em1 em2
   have q1':=aq q1 hg (fun g hg=>by cases hg)
   have HPT:=af (tE s R[k].2.1 (bt s R[k].1 - 48) a1 a2 _ c1 R[k].2.2.length c2 w.heap.size wr (lG hok.conds rfl) (hok.lens hs).1 q1')
   have hpc:=mG s R[k].2.1
   have hl1:=(hok.lens hs).1
   have hl2:=(hok.lens hs).2
   have HB:Hid (iY s R k↔(9≤k∨5<R[k].2.1.length∨4<R[k].2.2.length∨3<ez s R[k].2.1)):=af (by
    constructor
    ·rintro⟨_,h|h⟩
     ·exact .inl h
     ·rw[mL hok] at h;simp at h;rcases h with (h|h)|h
      ·exact .inr (.inl h)
      ·exact .inr (.inr (.inl h))
      ·exact .inr (.inr (.inr h))
    ·intro h
     refine⟨hlt,?_⟩
     rcases h with h|h|h|h
     ·exact .inl h
     ·right;rw[mL hok];simp[h]
     ·right;rw[mL hok];simp[h]
     ·right;rw[mL hok];simp[h])
   clear hcell x0 x1 x2 q1 q2 q1' hok
   obtain⟨lc,hlc⟩:∃ lc,lc=R[k].2.1.length:=⟨_,rfl⟩
   obtain⟨la,hla⟩:∃ la,la=R[k].2.2.length:=⟨_,rfl⟩
   obtain⟨np,hnp⟩:∃ np,np=ez s R[k].2.1:=⟨_,rfl⟩
   obtain⟨wt,hwt⟩:∃ wt,wt=bt s R[k].1 - 48:=⟨_,rfl⟩
   rw[←hlc] at HPT HB d1 hpc hl1
   rw[←hla] at HPT HB d2 hl2
   rw[←hnp] at HPT HB hpc
   rw[←hwt] at HPT d0
   clear hlc hla hnp hwt
   by_cases hb:9≤k∨5<lc∨4<la∨3<np
   ·have HO:Hid (x=3∧p=k∧o=none):=af (by
     have hf:bK (iY s R) R.length (some k):=⟨hlt,HB.out.mpr hb,HN.out⟩
     exact E1.out k (bK.unique H1.out hf))
    obtain⟨rfl,rfl,rfl⟩:=HO.out
    go_wp2_with fail
    go_at_call 78
    refine HPT.out.mono ?_
    rintro e w2 ⟨rfl,hg2⟩
    have d1':=hg2.cell d1 (by simp)
    have d2':=hg2.cell d2 (by simp)
    by_cases z1:5<lc
    ·go_wp2
     go_ret3
     exact⟨_,rfl,(fun R h=>by cases h),(fun _=>rfl),ae hg1 (ae hg hg2)⟩
    ·by_cases z2:3<np
     ·go_wp2
      go_ret3
      exact⟨_,rfl,(fun R h=>by cases h),(fun _=>rfl),ae hg1 (ae hg hg2)⟩
     ·by_cases z3:4<la
      ·go_wp2
       go_ret3
       exact⟨_,rfl,(fun R h=>by cases h),(fun _=>rfl),ae hg1 (ae hg hg2)⟩
      ·have z4:9≤k:=by omega
       go_wp2
       go_ret3
       exact⟨_,rfl,(fun R h=>by cases h),(fun _=>rfl),ae hg1 (ae hg hg2)⟩
   ·have HNB:Hid (¬iY s R k):=af (fun h=>hb (HB.out.mp h))
    have z1:¬5<lc:=by omega
    have z2:¬3<np:=by omega
    have z3:¬4<la:=by omega
    have z4:¬9≤k:=by omega
    clear hb
    go_wp2_with fail
    go_at_call 78
    refine HPT.out.mono ?_
    rintro e w2 ⟨rfl,hg2⟩
    have d1':=hg2.cell d1 (by simp)
    have d2':=hg2.cell d2 (by simp)
    have hg':=ae hg hg2
    clear hg hg2 d0 d1 d2
    go_wp2
    go_roundw
    case rel=>
     refine⟨k+1,by omega,by go_num,hg',?_⟩
     intro j hj
     by_cases ej:j=k
     ·rw[ej];exact HNB.out
     ·exact HN.out j (by omega)
    case measure=>simp[intOf];omega
  ·have HO1:Hid (o1=none):=af (bK.unique H1.out (show bK (iY s R) R.length none from fun j hj=>HN.out j (by omega)))
   clear HN
   go_wp2_with fail
   go_loopw [9] (fun t wr=>∃ k:Nat,k≤R.length∧t=.int .i64 k∧w1.grownBy wr none∧∀ j,j<k→¬jI s R j) (fun t _=>R.length - (intOf t).toNat)
   case atStart=>exact⟨0,Nat.zero_le _,rfl,hg,fun j hj=>by omega⟩
   case round=>
    clear hg
    obtain⟨k',hk',rfl,hg,hno⟩:=hrel
    have HN:=af hno
    clear hno
    by_cases hlt':k'<R.length
    ·obtain⟨a1,m1,c1,a2,m2,c2,x0,x1,x2,q1,q2⟩:=iE R xs HP.out k' hlt'
     obtain⟨g,rfl,_,hgb,hgl,hcell⟩:=aE hown (by omega)
     have d0:=hg.cell (hcell _ _ x0) (by simp)
     have d1:=hg.cell (hcell _ _ x1) (by simp)
     have d2:=hg.cell (hcell _ _ x2) (by simp)
     have hok:=HALL.out R[k'] (List.getElem_mem hlt')
     have q1':=aq q1 hg (fun g hg=>by cases hg)
     have q2':=aq q2 hg (fun g hg=>by cases hg)
     have HWH:=af (BG s R[k'].2.1 R[k'].2.2 (bt s R[k'].1 - 48) a1 a2 m1 c1 m2 c2 w.heap.size wr hs (lG hok.conds rfl) (fun p hp=>(yF hok.acts rfl p hp).2) (hok.lens hs).1 (hok.lens hs).2 q1' q2')
     have HB:Hid (jI s R k'↔ku s R[k'].2.1 R[k'].2.2=false):=af (by
      constructor
      ·rintro⟨_,h⟩;rw[yO hok] at h;simpa using h
      ·intro h;exact⟨hlt',by rw[yO hok,h];rfl⟩)
     clear hcell x0 x1 x2 q1 q2 q1' q2' hok
     obtain⟨bb,hbb⟩:∃ bb,bb=ku s R[k'].2.1 R[k'].2.2:=⟨_,rfl⟩
     rw[←hbb] at HWH HB
     clear hbb
     cases bb with
     |false=>
      have HO:Hid (x=4∧p=k'∧o=none):=af (by
       have hf:bK (jI s R) R.length (some k'):=⟨hlt',HB.out.mpr rfl,HN.out⟩
       exact E2.out k' HO1.out (bK.unique H2.out hf))
      obtain⟨rfl,rfl,rfl⟩:=HO.out
      go_wp2_with fail
      go_at_call 79
      refine HWH.out.mono ?_
      rintro e w2 ⟨rfl,hg2⟩
      go_wp2
      go_ret3
      exact⟨_,rfl,(fun R h=>by cases h),(fun _=>rfl),ae hg1 (ae hg hg2)⟩
     |true=>
      have HNB:Hid (¬jI s R k'):=af (fun h=>by have:=HB.out.mp h;cases this)
      go_wp2_with fail
      go_at_call 79
      refine HWH.out.mono ?_
      rintro e w2 ⟨rfl,hg2⟩
      have hg':=ae hg hg2
      clear hg hg2 d0 d1 d2
      go_wp2
      go_roundw
      case rel=>
       refine⟨k'+1,by omega,by go_num,hg',?_⟩
       intro j hj
       by_cases ej:j=k'
       ·rw[ej];exact HNB.out
       ·exact HN.out j (by omega)
      case measure=>simp[intOf];omega
    ·have HO2:Hid (o2=none):=af (bK.unique H2.out (show bK (jI s R) R.length none from fun j hj=>HN.out j (by omega)))
     obtain⟨rfl,rfl,rfl⟩:=E3.out HO1.out HO2.out
     go_wp2
     go_ret3
     exact⟨_,rfl,(fun R' h=>by cases h;exact oN ⟨xs,hown,HP.out⟩ hg),(fun h=>by cases h),ae hg1 hg⟩
theorem kC (bad:Nat→Prop):∀ n,∃ o,bK bad n o
 |0=>⟨none,fun j hj=>by omega⟩
 |n+1=>by
  obtain⟨o,h⟩:=kC bad n
  cases o with
  |some m=>exact⟨some m,by have h1:=h.1;omega,h.2.1,h.2.2⟩
  |none=>
   by_cases hb:bad n
   ·exact⟨some n,by omega,hb,h⟩
   ·refine⟨none,fun j hj=>?_⟩
    by_cases e:j=n
    ·rw[e];exact hb
    ·exact h j (by omega)
theorem qN {s:ByteArray}{R:List ay}{j:Nat}(h:kS s 0 R j true):j=s.size:=by
 obtain⟨⟨n,hn,hq⟩,hj⟩:=(qS h).1 rfl
 have:=kZ s n (by rw[hq];omega)
 omega
theorem mg (s:ByteArray)(w:World)(x p:Int)(o:Option (List ay))(hs:s.size≤maxLen)(h:cC s x p o):
  Calls Tryz.prog 39 #[.string s] w (Cl w s x p o):=by
 unfold maxLen at hs
 rcases h with ⟨h4,rfl,rfl,rfl⟩|⟨R,j,h4,hr,rfl,rfl,rfl⟩|⟨R,j,m,h4,hr,hb,rfl,rfl,rfl⟩|⟨R,j,m,h4,hr,hb,hu,rfl,rfl,rfl⟩|⟨R,j,h4,hr,hb,hu,rfl,rfl,rfl⟩
 ·go_enter Tryz.func39,Tryz.ntmps39
  go_wp2
  go_ret3
  exact⟨_,rfl,(fun R h=>by cases h),(fun _=>rfl),ag _ _⟩
 ·have HPL:=af (fun W=>sq s W h4)
  have HST:=af ((qS hr).2 rfl)
  clear hr
  go_enter Tryz.func39,Tryz.ntmps39
  go_wp2_with fail
  go_at_call 76
  refine (HPL.out _).mono ?_
  rintro e w' ⟨pp,rfl,hp,rfl⟩
  have hpp:=wE HST.out hp
  subst hpp
  clear hp
  go_wp2
  go_ret3
  exact⟨_,rfl,(fun R h=>by cases h),(fun _=>rfl),ag _ _⟩
 ·have e:=qN hr
  subst e
  obtain⟨o2,h2⟩:=kC (jI s R) R.length
  exact kO s R w _ _ _ h4 hr (some m) hb o2 h2 (fun m' e=>by cases e;exact⟨rfl,rfl,rfl⟩) (fun m' e=>by cases e) (fun e=>by cases e)
 ·have e:=qN hr
  subst e
  exact kO s R w _ _ _ h4 hr none hb (some m) hu (fun m' e=>by cases e) (fun m' _ e=>by cases e;exact⟨rfl,rfl,rfl⟩) (fun _ e=>by cases e)
 ·have e:=qN hr
  subst e
  exact kO s R w _ _ _ h4 hr none hb none hu (fun m' e=>by cases e) (fun m' _ e=>by cases e) (fun _ _=>⟨rfl,rfl,rfl⟩)
def qQ (v:Value)(room:Int):Array Value:=#[v,.int .i64 room,.slice none 0 0,.slice none 0 0,.slice none 0 0,.int .i64 0]
theorem AX (s:ByteArray)(room:Int)(w:World)(x p:Int)(o:Option (List ay))(hs:s.size≤maxLen)(h:cC s x p o)(h1:1≤x):
  Calls Tryz.prog 17 #[.string s,.int .i64 room] w fun e w'=>e=.returned (.tuple #[.pointer none,.int .i64 x,.int .i64 p])∧w.grownBy w' none:=by
 have hx0:(x != 0)=true:=by simp;omega
 have HR:=af (fun W=>mg s W x p o hs h)
 clear h
 go_enter Tryz.func17,Tryz.ntmps17
 go_wp2_with fail
 go_at_call 39
 refine (HR.out _).mono ?_
 rintro e w1 ⟨v,rfl,ho,hn,hg⟩
 clear ho hn
 go_wp2
 go_ret3
 exact⟨rfl,hg⟩
theorem xx (s:ByteArray)(room:Int)(w:World)(p:Int)(o:Option (List ay))(hs:s.size≤maxLen)(h:cC s 0 p o)(h1:room<1∨999<room):
  Calls Tryz.prog 17 #[.string s,.int .i64 room] w fun e w'=>e=.returned (.tuple #[.pointer none,.int .i64 5,.int .i64 0])∧w.grownBy w' none:=by
 have HR:=af (fun W=>mg s W 0 p o hs h)
 clear h
 rcases h1 with h1|h1
 all_goals
  go_enter Tryz.func17,Tryz.ntmps17
  go_wp2_with fail
  go_at_call 39
  refine (HR.out _).mono ?_
  rintro e w1 ⟨v,rfl,ho,hn,hg⟩
  clear ho hn
  go_wp2
  go_ret3
  exact⟨rfl,hg⟩
theorem Dx (s:ByteArray)(room:Int)(w:World)(p:Int)(R:List ay)(hs:s.size≤maxLen)(h:cC s 0 p (some R))(h1:1≤room)(h2:room≤999):
  Calls Tryz.prog 17 #[.string s,.int .i64 room] w fun e w'=>∃ g v,e=.returned (.tuple #[.pointer (some ⟨g,0,none⟩),.int .i64 0,.int .i64 0])∧w.heap.size≤g∧w'.heap[g]?=some (.cells (qQ v room) 40 (0,0))∧jz w' w.heap.size s v R∧w.grownBy w' none:=by
 have HR:=af (fun W=>mg s W 0 p (some R) hs h)
 clear h
 go_enter Tryz.func17,Tryz.ntmps17
 go_wp2_with fail
 go_at_call 39
 refine (HR.out _).mono ?_
 rintro e w1 ⟨v,rfl,ho,hn,hg⟩
 have HO:=af (ho R rfl)
 obtain⟨xs,hown,hpar⟩:=ho R rfl
 obtain⟨a,m,c,rfl⟩:=an hown
 have hsz:=hg.size
 clear ho hn hown hpar
 go_wp2
 go_ret3
 exact⟨w1.heap.size,_,rfl,hsz,heap_alloc_new w1 _,oN HO.out (World.grownBy_alloc w1 _ none),ab hg _⟩
end Go.Proofs.YthlhbjnkohinmaaGreat
