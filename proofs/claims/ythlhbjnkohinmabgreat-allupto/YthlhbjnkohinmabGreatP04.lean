import Derived.Test.YthlhbjnkohinmabGreatP03
namespace Go.Proofs.YthlhbjnkohinmabGreat
set_option maxRecDepth 100000
set_option maxHeartbeats 8000000
open Go.RowKit
abbrev ay:=Nat×List Nat×List Nat
structure FB (s:ByteArray)(M:Nat→List ay→Nat→Bool→Prop):Prop where
 done:∀ i,¬i<s.size→M i [] i true
 bad:∀ i L K j,i<s.size→rk s i L K j false→M i [] j false
 next:∀ i L K j R j' ok,i<s.size→rk s i L K j true→M j R j' ok→M i ((i,L,K)::R) j' ok
def kP (s:ByteArray)(i:Nat)(R:List ay)(j:Nat)(ok:Bool):Prop:=∀ M,FB s M→M i R j ok
theorem kP.done {s:ByteArray}{i:Nat}(h:¬i<s.size):kP s i [] i true:=fun _ c=>c.done i h
theorem kP.bad {s:ByteArray}{i:Nat}{L K:List Nat}{j:Nat}(h:i<s.size)(h1:rk s i L K j false):kP s i [] j false:=fun _ c=>c.bad i L K j h h1
theorem kP.next {s:ByteArray}{i:Nat}{L K:List Nat}{j:Nat}{R:List ay}{j':Nat}{ok:Bool}(h:i<s.size)(h1:rk s i L K j true)(h2:kP s j R j' ok):kP s i ((i,L,K)::R) j' ok:=fun M c=>c.next i L K j R j' ok h h1 (h2 M c)
theorem kP.ind {s:ByteArray}{M:Nat→List ay→Nat→Bool→Prop}(done:∀ i,¬i<s.size→M i [] i true)(bad:∀ i L K j,i<s.size→rk s i L K j false→M i [] j false)
  (next:∀ i L K j R j' ok,i<s.size→rk s i L K j true→kP s j R j' ok→M j R j' ok→M i ((i,L,K)::R) j' ok)
  {i:Nat} {R:List ay} {j:Nat} {ok:Bool} (h:kP s i R j ok):M i R j ok:=
 (h (fun i R j ok=>kP s i R j ok∧M i R j ok) ⟨fun i h=>⟨.done h,done i h⟩,fun i L K j h h1=>⟨.bad h h1,bad i L K j h h1⟩,fun i L K j R j' ok h h1 h2=>⟨.next h h1 h2.1,next i L K j R j' ok h h1 h2.1 h2.2⟩⟩).2
theorem tF {s:ByteArray}{i:Nat}{L:List Nat}{j:Nat}{ok:Bool}(h:jA s i L j ok):i≤j:=
 jA.ind (M:=fun i _ j _=>i≤j) (fun _ _=>Nat.le_refl _) (fun _ _ _=>by omega) (fun _ _ _ _=>by omega) (fun _ _ _ _ _=>by omega) (fun _ _ _ _ _ _ _ _ h=>by omega) h
theorem xp {s:ByteArray}{i:Nat}{L:List Nat}{j:Nat}{ok:Bool}(h:jY s i L j ok):i≤j:=
 jY.ind (M:=fun i _ j _=>i≤j) (fun _ _=>Nat.le_refl _) (fun _ _ _=>by omega) (fun _ _ _ _=>by omega) (fun _ _ _ _ _=>by omega) (fun _ _ _ _ _ _ _ _ h=>by omega) h
theorem Cj {s:ByteArray}{i:Nat}{L K:List Nat}{j:Nat}(h:rk s i L K j true):i<j:=by
 obtain⟨_,_,_,h1,h2⟩:=h.yes
 have:=tF h1;have:=xp h2;omega
def jH (w:World)(B:Nat)(s:ByteArray):List ay→List Value→Prop
 |[],xs=>xs=[]
 |r::R,xs=>∃ a1 m1 c1 a2 m2 c2 ys,xs=.int .i64 (bt s r.1 - 48)::.slice a1 m1 c1::.slice a2 m2 c2::ys∧
   w.ownsRow B 205 7 (.slice a1 m1 c1) r.2.1.length (dq s r.2.1)∧w.ownsRow B 218 8 (.slice a2 m2 c2) r.2.2.length (dZ s r.2.2)∧jH w B s R ys
theorem pL {w:World}{B:Nat}{s:ByteArray}{i:Nat}{L K:List Nat}{a1:Option Addr}{m1 c1:Nat}{a2:Option Addr}{m2 c2:Nat}
  (h1:w.ownsRow B 205 7 (.slice a1 m1 c1) L.length (dq s L)) (h2:w.ownsRow B 218 8 (.slice a2 m2 c2) K.length (dZ s K)) :
  ∀ (R:List ay) (xs:List Value),jH w B s R xs→jH w B s (R++[(i,L,K)]) (xs++[.int .i64 (bt s i - 48),.slice a1 m1 c1,.slice a2 m2 c2])
 |[],xs,h=>by
  have h:xs=[]:=h
  subst h
  exact⟨a1,m1,c1,a2,m2,c2,[],rfl,h1,h2,rfl⟩
 |r::R,xs,h=>by
  obtain⟨b1,n1,d1,b2,n2,d2,ys,rfl,k1,k2,k3⟩:=h
  exact⟨b1,n1,d1,b2,n2,d2,ys++_,rfl,k1,k2,pL h1 h2 R ys k3⟩
theorem aq {w w':World}{base:Nat}{e:TypeId}{size:Nat}{v:Value}{n:Nat}{xs:List Value}{row:Option Nat}(h:w.ownsRow base e size v n xs)(hg:w.grownBy w' row)
  (hrow:∀ g,row=some g→∃ cs t,w.heap[g]?=some (.cells cs t (0,0))∧e≠t):w'.ownsRow base e size v n xs:=by
 rcases h.2 with ⟨hv,_⟩|⟨g',cap,cur,hv,_,hh,_⟩
 ·exact h.kept hg (.inl (by rw[hv];rfl))
 ·refine h.kept hg (.inr ?_)
  intro hx
  have hx':some g'=row:=by rw[←hx,hv];rfl
  obtain⟨cs,t,hk,ht⟩:=hrow g' hx'.symm
  rw[hh] at hk
  simp at hk
  exact ht hk.2
theorem fB {w w':World}{B:Nat}{s:ByteArray}{row:Option Nat}(hg:w.grownBy w' row)
  (hrow:∀ g,row=some g→∃ cs t,w.heap[g]?=some (.cells cs t (0,0))∧205≠t∧218≠t):∀ (R:List ay) (xs:List Value),jH w B s R xs→jH w' B s R xs
 |[],_,h=>h
 |r::R,xs,h=>by
  obtain⟨b1,n1,d1,b2,n2,d2,ys,rfl,k1,k2,k3⟩:=h
  refine⟨b1,n1,d1,b2,n2,d2,ys,rfl,aq k1 hg ?_,aq k2 hg ?_,fB hg hrow R ys k3⟩
  ·intro g h;obtain⟨cs,t,e1,e2,e3⟩:=hrow g h;exact⟨cs,t,e1,e2⟩
  ·intro g h;obtain⟨cs,t,e1,e2,e3⟩:=hrow g h;exact⟨cs,t,e1,e3⟩
theorem oy {w:World}{B:Nat}{s:ByteArray}{R:List ay}{xs:List Value}(h:jH w B s R xs)(o:Obj):jH (w.alloc o) B s R xs:=
 fB (World.grownBy_alloc w o none) (fun g hg=>by cases hg) R xs h
def bS (w:World)(B:Nat)(s:ByteArray)(v:Value)(R:List ay):Prop:=∃ xs,w.ownsRow B 168 3 v R.length xs∧jH w B s R xs
theorem Tryz.info168:(Tryz.prog.info? 168).map (fun i=>(i.zero,i.size,i.bytes))=some (some (.agg #[.int .i64 0,.slice none 0 0,.slice none 0 0]),3,56):=by kernel_rfl
def Eu (w:World)(b:Nat)(s:ByteArray)(i:Nat)(e:Ending)(w':World):Prop:=
 ∃ R j ok v,e=.returned (.tuple #[v,.bool ok])∧kP s i R j ok∧(ok=true→bS w' w.heap.size s v R)∧j≤400∧Rd w' b s j∧w.grownBy w' (some b)
theorem fE {w:World}{base:Nat}{e:TypeId}{size:Nat}{v:Value}{n:Nat}{xs:List Value}(h:w.ownsRow base e size v n xs):∀ g,v.ownBlock=some g→∃ cs,w.heap[g]?=some (.cells cs e (0,0)):=by
 intro g hg
 rcases h.2 with ⟨hv,_⟩|⟨g',cap,cur,hv,_,hh,_⟩
 ·rw[hv] at hg;cases hg
 ·rw[hv] at hg
  simp[Value.ownBlock] at hg
  subst hg
  exact⟨cur,hh⟩
theorem By (s:ByteArray)(b i:Nat)(w:World)(hB:s.size≤400∧i≤400)(hr:Rd w b s i):
  Calls Tryz.prog 67 #[.pointer (some ⟨b,0,none⟩)] w (Eu w b s i):=by
 have hs:=hB.1
 have hl:=hr.lt
 obtain⟨i0,hi0,hz0,hz1,hz2⟩:=info_parts Tryz.info168
 go_enter Tryz.func67,Tryz.ntmps67
 go_wp2_with fail
 go_loopw [4] (fun v wr=>∃ (R0:List ay) (i':Nat) (xs:List Value),Rd wr b s i'∧i'≤400∧R0.length≤i'∧wr.ownsRow w.heap.size 168 3 v R0.length xs∧jH wr w.heap.size s R0 xs∧w.grownBy wr (some b)∧(∀ R j ok,kP s i' R j ok→kP s i (R0++R) j ok))
  (fun _ wr=>400 - vd wr b)
 case atStart=>exact⟨[],i,[],hr,hB.2,Nat.zero_le _,World.ownsRow_nil _ _ _ _,rfl,ag _ _,fun L j ok h=>h⟩
 case round=>
  obtain⟨R0,i',xs,hr0,hi4,hL0,hown,hpar,hg0,HC⟩:=hrel
  have c0:=hr0.c0
  have c1:=hr0.c1
  have hB':s.size≤400∧i'≤400:=⟨hs,hi4⟩
  have HC':=af HC
  have HP:=af hpar
  clear HC hpar
  by_cases hlt:i'<s.size
  ·go_wp2_with fail
   go_quiet ((fail))
   go_wp2_with fail
   go_at_call 95
   refine (B9 s b i' _ hB' (hr0.drewN _)).mono ?_
   rintro e w2 ⟨L,K,j,ok,x,a1,m1,k1,a2,m2,k2,rfl,hrul,hpo,hj4,hr2,hg2⟩
   replace hg2:=cD hg2
   have hbk:∀ g,some b=some g→∃ cs t,wr.heap[g]?=some (.cells cs t (0,0))∧205≠t∧218≠t:=by
    intro g hg;cases hg;exact⟨_,_,hr0,by decide,by decide⟩
   have HP2:=af (fB hg2 hbk R0 xs HP.out)
   have hown2:=hown.kept hg2 (.inr (gR hown hl))
   have hsz:=hg0.size
   have hsz2:=hg2.size
   have HR:=af hrul
   clear hbk hrul
   cases ok
   ·clear hpo
    go_wp2
    go_ret2
    exact⟨R0++[],j,false,.slice none 0 0,rfl,HC'.out _ _ _ (.bad hlt HR.out),(fun h=>by cases h),hj4,hr2.alloc _,ab (ae hg0 hg2) _⟩
   ·obtain⟨rfl,ho1,ho2⟩:=hpo rfl
    have HO1:=af ho1
    have HO2:=af ho2
    clear ho1 ho2
    go_wp2_with (first|(at_builtin;refine wpList_append_own _ rfl (.tmp 24) (.tmp 26) 75 rfl (w.heap.size) 168 i0 (.agg #[.int .i64 0,.slice none 0 0,.slice none 0 0]) 3 56 Tryz.underlying75 hi0 hz0 hz1 hz2 rfl (by decide) _ _ _ rfl ((hown2.alloc _).alloc _) _ 1 1 [.int .i64 (bt s i' - 48),.slice a1 m1 k1,.slice a2 m2 k2] rfl rfl ?c1 ?c2 ?c3 ?c4 ?c5 ?_))
    case c1=>
     intro j u hj
     exact mZ hj
    case c2=>intro u hu;simp at hu;rcases hu with h|h|h <;> subst h <;> rfl
    case c3=>unfold maxLen;omega
    case c4=>omega
    case c5=>simp;omega
    ·intro v' w3 hown3 hg3 _
     have hlt2:=Cj HR.out
     have hown3':w3.ownsRow w.heap.size 168 3 v' (R0++[(i',L,K)]).length (xs++[.int .i64 (bt s i' - 48),.slice a1 m1 k1,.slice a2 m2 k2]):=by simpa using hown3
     have hr3:Rd w3 b s j:=(hg3.block b (by have:=hr2.lt;simp;omega) (fun e=>gR hown hl e.symm)).trans ((hr2.alloc _).alloc _)
     have hg3':w.grownBy w3 (some b):=oi (ab (ab (ae hg0 hg2) _) _) hg3 (fun g hg=>(hown.lt g hg).1)
     have HP3:Hid (jH w3 w.heap.size s (R0++[(i',L,K)]) (xs++[.int .i64 (bt s i' - 48),.slice a1 m1 k1,.slice a2 m2 k2])):=by
      refine fB hg3 ?_ _ _ (oy (oy (pL (bN HO1.out (by simpa using hsz)) (bN HO2.out (by simpa using hsz)) R0 xs HP2.out) _) _)
      intro g hg
      obtain⟨cs,hcs⟩:=fE ((hown2.alloc _).alloc _) g hg
      exact⟨cs,_,hcs,by decide,by decide⟩
     have HN:Hid (∀ R j' ok,kP s j R j' ok→kP s i ((R0++[(i',L,K)])++R) j' ok):=af (by
      intro R j' ok hn
      have:=HC'.out _ _ _ (.next hlt HR.out hn)
      simpa using this)
     have hlen:(R0++[(i',L,K)]).length≤j:=by simp;omega
     have hp0:=af (jT hr0)
     have hp3:=af (jT hr3)
     clear hown3 hg3 hown2 hown hg2 hr2 hg0 c0 c1 hr0
     go_wp2
     go_roundw
     case rel=>exact⟨R0++[(i',L,K)],j,_,hr3,hj4,hlen,hown3',HP3.out,hg3',HN.out⟩
     case measure=>rw[hp0.out,hp3.out];omega
  ·go_wp2_with fail
   go_quiet ((fail))
   go_wp2
   go_ret2
   have:=HC'.out _ _ _ (.done hlt)
   rw[List.append_nil] at this
   exact⟨R0,i',true,_,rfl,this,(fun _=>⟨xs,hown,fB (al (ag _ none) _) (fun g hg=>by cases hg) _ _ HP.out⟩),hi4,hr0.drewN _,al hg0 _⟩
theorem tn {f:Nat→List Value}{m:Nat}(hf:∀ p,(f p).length=m):∀ (L:List Nat) (k j:Nat) (hk:k<L.length),j<m→(L.flatMap f)[k*m+j]?=(f L[k])[j]?
 |p::L,0,j,_,hj=>by
  simp only[List.flatMap_cons]
  rw[List.getElem?_append_left (by rw[hf];omega)]
  simp
 |p::L,k+1,j,hk,hj=>by
  simp only[List.flatMap_cons]
  rw[List.getElem?_append_right (by rw[hf];have:(k+1)*m=k*m+m:=by rw[Nat.add_mul,Nat.one_mul]
                                    omega)]
  have e:(k+1)*m+j - (f p).length=k*m+j:=by rw[hf,Nat.add_mul,Nat.one_mul];omega
  rw[e,tn hf L k j (by simpa using hk) hj]
  simp
theorem F3 (s:ByteArray)(L:List Nat)(k j:Nat)(hk:k<L.length)(hj:j<7):(dq s L)[k*7+j]?=((df s L[k]).arr.toList)[j]?:=
 tn (f:=fun p=>(df s p).arr.toList) (m:=7) (fun _=>rfl) L k j hk hj
theorem FC (s:ByteArray)(L:List Nat)(k j:Nat)(hk:k<L.length)(hj:j<8):(dZ s L)[k*8+j]?=((ed s L[k]).arr.toList)[j]?:=
 tn (f:=fun p=>(ed s p).arr.toList) (m:=8) (fun _=>rfl) L k j hk hj
theorem aC {w:World}{base:Nat}{e:TypeId}{size:Nat}{a:Option Addr}{m c n:Nat}{xs:List Value}(h:w.ownsRow base e size (.slice a m c) n xs)(hn:0<n):
  ∃ g,a=some ⟨g,0,none⟩∧m=n∧base≤g∧g<w.heap.size∧∀ j u,xs[j]?=some u→w.cell? ⟨g,j,none⟩=some u:=by
 have hc:=fun g=>h.cells (g:=g)
 have hlt:=h.lt
 rcases h.2 with ⟨hv,h0⟩|⟨g,cap,cur,hv,hb,hh,_⟩
 ·omega
 ·cases hv
  refine⟨g,rfl,rfl,hb,(hlt g rfl).2,fun j u hj=>?_⟩
  have:=hc g rfl j u hj
  have hadd:(⟨g,0,none⟩:Addr).add j=⟨g,j,none⟩:=by unfold Addr.add;split <;> simp_all
  rwa [hadd] at this
theorem ar {w:World}{base:Nat}{e:TypeId}{size:Nat}{a:Option Addr}{m c n:Nat}{xs:List Value}(h:w.ownsRow base e size (.slice a m c) n xs):m=n:=by
 rcases h.2 with ⟨hv,h0⟩|⟨g,cap,cur,hv,hb,hh,_⟩
 ·cases hv;exact h0.symm
 ·cases hv;rfl
theorem rY {w wr:World}{s:ByteArray}{L:List Nat}{B k m c:Nat}{a:Option Addr}{row:Option Nat}(h:w.ownsRow B 205 7 (.slice a m c) L.length (dq s L))(hg:w.grownBy wr row)(hrow:∀ g,row=some g→g<B)(hk:k<L.length):
  ∃ g,a=some ⟨g,0,none⟩∧g<w.heap.size∧B≤g∧wr.cell? ⟨g,k*7,none⟩=some (.int .i64 (df s L[k]).k)∧wr.cell? ⟨g,k*7+1,none⟩=some (.int .i64 (df s L[k]).c)∧wr.cell? ⟨g,k*7+2,none⟩=some (.int .u8 (df s L[k]).g)∧wr.cell? ⟨g,k*7+3,none⟩=some (.int .i64 (df s L[k]).a1)∧wr.cell? ⟨g,k*7+4,none⟩=some (.int .i64 (df s L[k]).a2)∧wr.cell? ⟨g,k*7+5,none⟩=some (.int .i64 (df s L[k]).b1)∧wr.cell? ⟨g,k*7+6,none⟩=some (.int .i64 (df s L[k]).b2):=by
 obtain⟨g,rfl,_,hgb,hgl,hcell⟩:=aC h (by omega)
 have hne:some g≠row:=by intro hx;have:=hrow g hx.symm;omega
 have hce:∀ j u,((df s L[k]).arr.toList)[j]?=some u→j<7→wr.cell? ⟨g,k*7+j,none⟩=some u:=fun j u hj hj7=>hg.cell (hcell _ _ ((F3 s L k j hk hj7).trans hj)) hne
 exact⟨g,rfl,hgl,hgb,hce 0 _ rfl (by omega),hce 1 _ rfl (by omega),hce 2 _ rfl (by omega),hce 3 _ rfl (by omega),hce 4 _ rfl (by omega),hce 5 _ rfl (by omega),hce 6 _ rfl (by omega)⟩
theorem Au {w wr:World}{s:ByteArray}{L:List Nat}{B k m c:Nat}{a:Option Addr}{row:Option Nat}(h:w.ownsRow B 218 8 (.slice a m c) L.length (dZ s L))(hg:w.grownBy wr row)(hrow:∀ g,row=some g→g<B)(hk:k<L.length):
  ∃ g,a=some ⟨g,0,none⟩∧g<w.heap.size∧B≤g∧wr.cell? ⟨g,k*8,none⟩=some (.int .i64 (ed s L[k]).k)∧wr.cell? ⟨g,k*8+1,none⟩=some (.int .i64 (ed s L[k]).c)∧wr.cell? ⟨g,k*8+2,none⟩=some (.int .i64 (ed s L[k]).a1)∧wr.cell? ⟨g,k*8+3,none⟩=some (.int .i64 (ed s L[k]).a2)∧wr.cell? ⟨g,k*8+4,none⟩=some (.int .i64 (ed s L[k]).a3)∧wr.cell? ⟨g,k*8+5,none⟩=some (.int .i64 (ed s L[k]).b1)∧wr.cell? ⟨g,k*8+6,none⟩=some (.int .i64 (ed s L[k]).b2)∧wr.cell? ⟨g,k*8+7,none⟩=some (.int .i64 (ed s L[k]).b3):=by
 obtain⟨g,rfl,_,hgb,hgl,hcell⟩:=aC h (by omega)
 have hne:some g≠row:=by intro hx;have:=hrow g hx.symm;omega
 have hce:∀ j u,((ed s L[k]).arr.toList)[j]?=some u→j<8→wr.cell? ⟨g,k*8+j,none⟩=some u:=fun j u hj hj7=>hg.cell (hcell _ _ ((FC s L k j hk hj7).trans hj)) hne
 exact⟨g,rfl,hgl,hgb,hce 0 _ rfl (by omega),hce 1 _ rfl (by omega),hce 2 _ rfl (by omega),hce 3 _ rfl (by omega),hce 4 _ rfl (by omega),hce 5 _ rfl (by omega),hce 6 _ rfl (by omega),hce 7 _ rfl (by omega)⟩
def bL (s:ByteArray)(L:List Nat):Nat:=(L.filter fun p=>(df s p).k==1).length
def iq (s:ByteArray)(L K:List Nat):Bool:=decide (5<L.length)||decide (4<K.length)||decide (3<bL s L)
theorem wu (s:ByteArray)(L:List Nat):bL s L≤L.length:=List.length_filter_le _ _
theorem lM (s:ByteArray)(L:List Nat)(k:Nat)(hk:k<L.length):bL s (L.take (k+1))=bL s (L.take k)+if (df s L[k]).k=1 then 1 else 0:=by
 rw[List.take_succ_eq_append_getElem hk]
 unfold bL
 rw[List.filter_append,List.length_append]
 by_cases h:(df s L[k]).k=1 <;> simp[h]
theorem tq (s:ByteArray)(L K:List Nat)(x:Int)(a1 a2:Option Addr)(m1 c1 m2 c2 B:Nat)(w:World)
  (h1:w.ownsRow B 205 7 (.slice a1 m1 c1) L.length (dq s L)) (h2:w.ownsRow B 218 8 (.slice a2 m2 c2) K.length (dZ s K)) :
  Calls Tryz.prog 96 #[.agg #[.int .i64 x,.slice a1 m1 c1,.slice a2 m2 c2]] w fun e w'=>e=.returned (.bool (iq s L K))∧w.grownBy w' none:=by
 have e1:=ar h1
 have e2:=ar h2
 subst e1 e2
 by_cases k1:5<L.length
 ·have hov:iq s L K=true:=by simp[iq,k1]
  rw[hov]
  go_enter Tryz.func96,Tryz.ntmps96
  go_wp2
  go_ret
  exact⟨rfl,ab (ag _ _) _⟩
 ·by_cases k2:4<K.length
  ·have hov:iq s L K=true:=by simp[iq,k2]
   rw[hov]
   go_enter Tryz.func96,Tryz.ntmps96
   go_wp2
   go_ret
   exact⟨rfl,ab (ag _ _) _⟩
  ·have hov:iq s L K=decide (3<bL s L):=by simp[iq,k1,k2]
   rw[hov]
   clear hov
   go_enter Tryz.func96,Tryz.ntmps96
   go_wp2_with fail
   go_loopw [3,19] (fun n t wr=>∃ k:Nat,k≤L.length∧t=.int .i64 k∧n=.int .i64 (bL s (L.take k):Nat)∧w.grownBy wr none) (fun _ t _=>L.length - (intOf t).toNat)
   case atStart=>exact⟨0,Nat.zero_le _,rfl,rfl,ab (ag _ _) _⟩
   case round=>
    obtain⟨k,hk,rfl,rfl,hg⟩:=hrel
    by_cases hlt:k<L.length
    ·obtain⟨g,rfl,hgl,hgb,d0,d1,d2,d3,d4,d5,d6⟩:=rY h1 hg (fun g hg=>by cases hg) hlt
     have hpc:=wu s (L.take k)
     have hpl:(L.take k).length≤L.length:=by simp;omega
     by_cases hk1:(df s L[k]).k=1
     ·have HS:=af (lM s L k hlt)
      rw[if_pos hk1] at HS
      go_wp2
      go_roundw
      case rel=>exact⟨k+1,by omega,by go_num,by rw[HS.out];go_num,ab hg _⟩
      case measure=>simp[intOf];omega
     ·have HS:=af (lM s L k hlt)
      rw[if_neg hk1] at HS
      have hk2:((df s L[k]).k==1)=false:=by simpa using hk1
      go_wp2
      go_roundw
      case rel=>exact⟨k+1,by omega,by go_num,by rw[HS.out];go_num,ab hg _⟩
      case measure=>simp[intOf];omega
    ·go_wp2
     go_ret
     have e:L.take k=L:=List.take_of_length_le (by omega)
     rw[e]
     exact⟨c7 (by rw[decide_eq_decide];omega),hg⟩
def bJ (bad:Nat→Prop)(n:Nat):Option Nat→Prop
 |some m=>m<n∧bad m∧∀ j,j<m→¬bad j
 |none=>∀ j,j<n→¬bad j
theorem bJ.unique {bad:Nat→Prop}{n:Nat}:∀ {a b:Option Nat},bJ bad n a→bJ bad n b→a=b
 |some a,some b,⟨h1,h2,h3⟩,⟨k1,k2,k3⟩=>by
  rcases Nat.lt_trichotomy a b with h|h|h
  ·exact absurd h2 (k3 a h)
  ·rw[h]
  ·exact absurd k2 (h3 b h)
 |some a,none,⟨h1,h2,h3⟩,h=>absurd h2 (h a h1)
 |none,some b,h,⟨k1,k2,k3⟩=>absurd k2 (h b k1)
 |none,none,_,_=>rfl
theorem jP {w:World}{B:Nat}{s:ByteArray}:∀ (R:List ay) (xs:List Value),jH w B s R xs→∀ (k:Nat) (hk:k<R.length),∃ a1 m1 c1 a2 m2 c2,xs[k*3]?=some (.int .i64 (bt s R[k].1 - 48))∧xs[k*3+1]?=some (.slice a1 m1 c1)∧xs[k*3+2]?=some (.slice a2 m2 c2)∧
  w.ownsRow B 205 7 (.slice a1 m1 c1) R[k].2.1.length (dq s R[k].2.1)∧w.ownsRow B 218 8 (.slice a2 m2 c2) R[k].2.2.length (dZ s R[k].2.2)
 |r::R,xs,h,0,_=>by
  obtain⟨b1,n1,d1,b2,n2,d2,ys,rfl,k1,k2,k3⟩:=h
  exact⟨b1,n1,d1,b2,n2,d2,rfl,rfl,rfl,k1,k2⟩
 |r::R,xs,h,k+1,hk=>by
  obtain⟨b1,n1,d1,b2,n2,d2,ys,rfl,k1,k2,k3⟩:=h
  obtain⟨a1,m1,c1,a2,m2,c2,e1,e2,e3,e4,e5⟩:=jP R ys k3 k (by simpa using hk)
  have f1:(k+1)*3=k*3+1+1+1:=by omega
  rw[f1]
  exact⟨a1,m1,c1,a2,m2,c2,by simpa using e1,by simpa using e2,by simpa using e3,by simpa using e4,by simpa using e5⟩
def iZ (s:ByteArray)(R:List ay)(k:Nat):Prop:=∃ h:k<R.length,9≤k∨iq s R[k].2.1 R[k].2.2=true
def rK (o:Option Nat):Value:=match o with|some m=>.tuple #[.int .i64 (m:Int),.bool true]|none=>.tuple #[.int .i64 0,.bool false]
theorem mA (s:ByteArray)(R:List ay)(B:Nat)(v:Value)(w:World)(hR:R.length≤400)(h:bS w B s v R):
  Calls Tryz.prog 68 #[v] w fun e w'=>∃ o,bJ (iZ s R) R.length o∧e=.returned (rK o)∧w.grownBy w' none:=by
 obtain⟨xs,hown,hpar⟩:=h
 obtain⟨a,m,c,rfl⟩:=an hown
 have e1:=ar hown
 subst e1
 go_enter Tryz.func68,Tryz.ntmps68
 go_wp2_with fail
 go_loopw [8] (fun t wr=>∃ k:Nat,k≤R.length∧t=.int .i64 k∧w.grownBy wr none∧∀ j,j<k→¬iZ s R j) (fun t _=>R.length - (intOf t).toNat)
 case atStart=>exact⟨0,Nat.zero_le _,rfl,ag _ _,fun j hj=>by omega⟩
 case round=>
  obtain⟨k,hk,rfl,hg,hno⟩:=hrel
  have HN:=af hno
  clear hno
  by_cases hlt:k<R.length
  ·obtain⟨a1,m1,c1,a2,m2,c2,x0,x1,x2,o1,o2⟩:=jP R xs hpar k hlt
   obtain⟨g,rfl,_,hgb,hgl,hcell⟩:=aC hown (by omega)
   have d0:=hg.cell (hcell _ _ x0) (by simp)
   have d1:=hg.cell (hcell _ _ x1) (by simp)
   have d2:=hg.cell (hcell _ _ x2) (by simp)
   have o1':=aq o1 hg (fun g hg=>by cases hg)
   have o2':=aq o2 hg (fun g hg=>by cases hg)
   clear hcell x0 x1 x2 o1 o2
   by_cases h9:9≤k
   ·go_wp2
    go_ret2
    exact⟨some k,⟨hlt,⟨hlt,.inl h9⟩,HN.out⟩,rfl,ab hg _⟩
   ·have HOV:=af (tq s R[k].2.1 R[k].2.2 (bt s R[k].1 - 48) a1 a2 m1 c1 m2 c2 B _ (o1'.alloc (.cells #[.int .i64 (bt s R[k].1 - 48),.slice a1 m1 c1,.slice a2 m2 c2] 168)) (o2'.alloc _))
    clear o1' o2'
    by_cases hb:iq s R[k].2.1 R[k].2.2=true
    ·rw[hb] at HOV
     have HB:=af hb
     clear hb
     go_wp2_with (go_at_call 96;refine HOV.out.mono ?_;rintro e w2 ⟨rfl,hg2⟩)
     go_ret2
     exact⟨some k,⟨hlt,⟨hlt,.inr HB.out⟩,HN.out⟩,rfl,ae (ab hg _) hg2⟩
    ·have hb':iq s R[k].2.1 R[k].2.2=false:=by simpa using hb
     rw[hb'] at HOV
     have HB:=af hb
     clear hb hb'
     go_wp2_with (go_at_call 96;refine HOV.out.mono ?_;rintro e w2 ⟨rfl,hg2⟩)
     go_roundw
     case rel=>
      refine⟨k+1,by omega,by go_num,ae (ab hg _) hg2,?_⟩
      intro j hj
      by_cases e:j=k
      ·subst e;rintro⟨_,h|h⟩
       ·exact h9 h
       ·exact HB.out h
      ·exact HN.out j (by omega)
     case measure=>simp[intOf];omega
  ·go_wp2
   go_ret2
   refine⟨none,?_,rfl,hg⟩
   intro j hj
   exact HN.out j (by omega)
def Bd (w:World)(g:Nat)(bs:Nat→Bool):Prop:=w.heap[g]?=some (.cells #[.bool (bs 0),.bool (bs 1),.bool (bs 2),.bool (bs 3)] 230 (0,0))
def je (bs:Nat→Bool)(k v:Int):Nat→Bool:=fun n=>bs n||(decide (k=2)&&decide ((n:Int)=v))
def fe (bs:Nat→Bool)(k v:Int):Bool:=decide (k=2)&&!(bs v.toNat)
theorem Bd.c {w:World}{g:Nat}{bs:Nat→Bool}(h:Bd w g bs):w.cell? ⟨g,0,none⟩=some (.bool (bs 0))∧w.cell? ⟨g,1,none⟩=some (.bool (bs 1))∧w.cell? ⟨g,2,none⟩=some (.bool (bs 2))∧w.cell? ⟨g,3,none⟩=some (.bool (bs 3)):=by
 unfold Bd at h;simp[World.cell?,h]
theorem Bd.f {w:World}{g:Nat}{bs:Nat→Bool}(h:Bd w g bs):w.frozen? ⟨g,0,none⟩=false∧w.frozen? ⟨g,1,none⟩=false∧w.frozen? ⟨g,2,none⟩=false∧w.frozen? ⟨g,3,none⟩=false:=by
 unfold Bd at h;simp[World.frozen?,h]
theorem Bd.lt {w:World}{g:Nat}{bs:Nat→Bool}(h:Bd w g bs):g<w.heap.size:=lt_of_block h
theorem Bd.alloc {w:World}{g:Nat}{bs:Nat→Bool}(h:Bd w g bs)(o:Obj):Bd (w.alloc o) g bs:=(Below.heap_alloc w o g h.lt).trans h
theorem Bd.kept {w w':World}{g:Nat}{bs:Nat→Bool}{row:Option Nat}(h:Bd w g bs)(hg:w.grownBy w' row)(hne:some g≠row):Bd w' g bs:=(hg.block g h.lt hne).trans h
theorem Bd.drew {w:World}{g:Nat}{bs:Nat→Bool}(h:Bd w g bs):Bd w.drew g bs:=h
theorem Bd.set {w:World}{g:Nat}{bs:Nat→Bool}(h:Bd w g bs)(i:Nat)(bs':Nat→Bool)(he:(#[.bool (bs 0),.bool (bs 1),.bool (bs 2),.bool (bs 3)]:Array Value).setIfInBounds i (.bool true)=#[.bool (bs' 0),.bool (bs' 1),.bool (bs' 2),.bool (bs' 3)]):Bd (w.setCell ⟨g,i,none⟩ (.bool true)) g bs':=by
 unfold Bd at h ⊢
 rw[Go.heap_setCell_same w g i _ _ _ h,he]
theorem xV (bs:Nat→Bool)(g:Nat)(w:World)(hb:Bd w g bs):
  Calls Tryz.prog 137 #[.pointer (some ⟨g,0,none⟩),.agg #[.int .i64 2,.int .i64 0]] w fun e w'=>e=.returned (.bool (!(bs 0)))∧w.grownBy w' none:=by
 obtain⟨c0,c1,c2,c3⟩:=hb.c
 have hl:=hb.lt
 have hz:g≠w.heap.size:=by omega
 go_enter Tryz.func137,Tryz.ntmps137
 go_wp2
 go_quiet ((fail))
 go_wp2
 go_ret
 exact⟨rfl,al (ab (ag _ _) _) _⟩
theorem F9 (bs:Nat→Bool)(g:Nat)(w:World)(hb:Bd w g bs):
  Calls Tryz.prog 120 #[.pointer (some ⟨g,0,none⟩),.agg #[.int .i64 2,.int .i64 0]] w fun e w'=>e=.returned (.tuple #[])∧Bd w' g (je bs 2 0)∧w.grownBy w' (some g):=by
 obtain⟨c0,c1,c2,c3⟩:=hb.c
 obtain⟨f0,f1,f2,f3⟩:=hb.f
 have hl:=hb.lt
 have hz:g≠w.heap.size:=by omega
 have HB:=af (hb.set 0 (je bs 2 0) (by simp[je]))
 go_enter Tryz.func120,Tryz.ntmps120
 go_wp2
 go_region
 all_goals (try go_wp2)
 all_goals
  go_end0
  exact⟨rfl,(HB.out.alloc _).drew,al (ab (aj (ag _ _) (.inl rfl) _) _) 1⟩
theorem xF (bs:Nat→Bool)(g:Nat)(w:World)(hb:Bd w g bs):
  Calls Tryz.prog 137 #[.pointer (some ⟨g,0,none⟩),.agg #[.int .i64 2,.int .i64 1]] w fun e w'=>e=.returned (.bool (!(bs 1)))∧w.grownBy w' none:=by
 obtain⟨c0,c1,c2,c3⟩:=hb.c
 have hl:=hb.lt
 have hz:g≠w.heap.size:=by omega
 go_enter Tryz.func137,Tryz.ntmps137
 go_wp2
 go_quiet ((fail))
 go_wp2
 go_ret
 exact⟨rfl,al (ab (ag _ _) _) _⟩
theorem Gd (bs:Nat→Bool)(g:Nat)(w:World)(hb:Bd w g bs):
  Calls Tryz.prog 120 #[.pointer (some ⟨g,0,none⟩),.agg #[.int .i64 2,.int .i64 1]] w fun e w'=>e=.returned (.tuple #[])∧Bd w' g (je bs 2 1)∧w.grownBy w' (some g):=by
 obtain⟨c0,c1,c2,c3⟩:=hb.c
 obtain⟨f0,f1,f2,f3⟩:=hb.f
 have hl:=hb.lt
 have hz:g≠w.heap.size:=by omega
 have HB:=af (hb.set 1 (je bs 2 1) (by simp[je]))
 go_enter Tryz.func120,Tryz.ntmps120
 go_wp2
 go_region
 all_goals (try go_wp2)
 all_goals
  go_end0
  exact⟨rfl,(HB.out.alloc _).drew,al (ab (aj (ag _ _) (.inl rfl) _) _) 1⟩
theorem xW (bs:Nat→Bool)(g:Nat)(w:World)(hb:Bd w g bs):
  Calls Tryz.prog 137 #[.pointer (some ⟨g,0,none⟩),.agg #[.int .i64 2,.int .i64 2]] w fun e w'=>e=.returned (.bool (!(bs 2)))∧w.grownBy w' none:=by
 obtain⟨c0,c1,c2,c3⟩:=hb.c
 have hl:=hb.lt
 have hz:g≠w.heap.size:=by omega
 go_enter Tryz.func137,Tryz.ntmps137
 go_wp2
 go_quiet ((fail))
 go_wp2
 go_ret
 exact⟨rfl,al (ab (ag _ _) _) _⟩
theorem F7 (bs:Nat→Bool)(g:Nat)(w:World)(hb:Bd w g bs):
  Calls Tryz.prog 120 #[.pointer (some ⟨g,0,none⟩),.agg #[.int .i64 2,.int .i64 2]] w fun e w'=>e=.returned (.tuple #[])∧Bd w' g (je bs 2 2)∧w.grownBy w' (some g):=by
 obtain⟨c0,c1,c2,c3⟩:=hb.c
 obtain⟨f0,f1,f2,f3⟩:=hb.f
 have hl:=hb.lt
 have hz:g≠w.heap.size:=by omega
 have HB:=af (hb.set 2 (je bs 2 2) (by simp[je]))
 go_enter Tryz.func120,Tryz.ntmps120
 go_wp2
 go_region
 all_goals (try go_wp2)
 all_goals
  go_end0
  exact⟨rfl,(HB.out.alloc _).drew,al (ab (aj (ag _ _) (.inl rfl) _) _) 1⟩
theorem yo (bs:Nat→Bool)(g:Nat)(w:World)(hb:Bd w g bs):
  Calls Tryz.prog 137 #[.pointer (some ⟨g,0,none⟩),.agg #[.int .i64 2,.int .i64 3]] w fun e w'=>e=.returned (.bool (!(bs 3)))∧w.grownBy w' none:=by
 obtain⟨c0,c1,c2,c3⟩:=hb.c
 have hl:=hb.lt
 have hz:g≠w.heap.size:=by omega
 go_enter Tryz.func137,Tryz.ntmps137
 go_wp2
 go_quiet ((fail))
 go_wp2
 go_ret
 exact⟨rfl,al (ab (ag _ _) _) _⟩
theorem Ge (bs:Nat→Bool)(g:Nat)(w:World)(hb:Bd w g bs):
  Calls Tryz.prog 120 #[.pointer (some ⟨g,0,none⟩),.agg #[.int .i64 2,.int .i64 3]] w fun e w'=>e=.returned (.tuple #[])∧Bd w' g (je bs 2 3)∧w.grownBy w' (some g):=by
 obtain⟨c0,c1,c2,c3⟩:=hb.c
 obtain⟨f0,f1,f2,f3⟩:=hb.f
 have hl:=hb.lt
 have hz:g≠w.heap.size:=by omega
 have HB:=af (hb.set 3 (je bs 2 3) (by simp[je]))
 go_enter Tryz.func120,Tryz.ntmps120
 go_wp2
 go_region
 all_goals (try go_wp2)
 all_goals
  go_end0
  exact⟨rfl,(HB.out.alloc _).drew,al (ab (aj (ag _ _) (.inl rfl) _) _) 1⟩
theorem nE (bs:Nat→Bool)(k v:Int)(g:Nat)(w:World)(hb:Bd w g bs)(hv:k=2→0≤v∧v<4):
  Calls Tryz.prog 137 #[.pointer (some ⟨g,0,none⟩),.agg #[.int .i64 k,.int .i64 v]] w fun e w'=>e=.returned (.bool (fe bs k v))∧w.grownBy w' none:=by
 by_cases hk:k=2
 ·obtain⟨h1,h2⟩:=hv hk
  subst hk
  rcases (show v=0∨v=1∨v=2∨v=3 by omega) with rfl|rfl|rfl|rfl
  ·exact xV bs g w hb
  ·exact xF bs g w hb
  ·exact xW bs g w hb
  ·exact yo bs g w hb
 ·have hl2:fe bs k v=false:=by simp[fe,hk]
  have hk':(k != 2)=true:=by simpa using hk
  rw[hl2]
  clear hv hk
  go_enter Tryz.func137,Tryz.ntmps137
  go_wp2
  go_ret
  exact⟨rfl,ab (ag _ _) _⟩
theorem Aa (bs:Nat→Bool)(k v:Int)(h:¬k=2):je bs k v=bs:=by funext n;simp[je,h]
theorem zc (bs:Nat→Bool)(k v:Int)(g:Nat)(w:World)(hb:Bd w g bs)(hv:k=2→0≤v∧v<4):
  Calls Tryz.prog 120 #[.pointer (some ⟨g,0,none⟩),.agg #[.int .i64 k,.int .i64 v]] w fun e w'=>e=.returned (.tuple #[])∧Bd w' g (je bs k v)∧w.grownBy w' (some g):=by
 by_cases hk:k=2
 ·obtain⟨h1,h2⟩:=hv hk
  subst hk
  rcases (show v=0∨v=1∨v=2∨v=3 by omega) with rfl|rfl|rfl|rfl
  ·exact F9 bs g w hb
  ·exact Gd bs g w hb
  ·exact F7 bs g w hb
  ·exact Ge bs g w hb
 ·rw[Aa bs k v hk]
  have hk':(k==2)=false:=by simpa using hk
  clear hv hk
  go_enter Tryz.func120,Tryz.ntmps120
  go_wp2
  go_end0
  exact⟨rfl,hb.alloc _,ab (ag _ _) _⟩
theorem se (bs:Nat→Bool)(k v l u:Int)(g:Nat)(w:World)(hb:Bd w g bs)(hv:k=2→0≤v∧v<4)(hu:l=2→0≤u∧u<4):
  Calls Tryz.prog 121 #[.pointer (some ⟨g,0,none⟩),.agg #[.int .i64 k,.int .i64 v],.agg #[.int .i64 l,.int .i64 u]] w fun e w'=>e=.returned (.bool (fe bs k v||fe bs l u))∧w.grownBy w' none:=by
 have hl:=hb.lt
 have H1:=af (fun W hW=>nE bs k v g W hW hv)
 have H2:=af (fun W hW=>nE bs l u g W hW hu)
 clear hv hu
 by_cases h:fe bs k v=true
 ·have e:(fe bs k v||fe bs l u)=true:=by simp[h]
  rw[e]
  rw[h] at H1
  go_enter Tryz.func121,Tryz.ntmps121
  go_wp2_with fail
  go_at_call 137
  refine (H1.out _ ((hb.alloc _).alloc _)).mono ?_
  rintro e w1 ⟨rfl,hg1⟩
  go_wp2
  go_ret
  exact⟨rfl,ae (ab (ab (ag _ _) _) _) hg1⟩
 ·have h':fe bs k v=false:=by simpa using h
  have e:(fe bs k v||fe bs l u)=fe bs l u:=by simp[h']
  rw[e]
  rw[h'] at H1
  generalize fe bs l u=q at*
  go_enter Tryz.func121,Tryz.ntmps121
  go_wp2_with fail
  go_at_call 137
  refine (H1.out _ ((hb.alloc _).alloc _)).mono ?_
  rintro e w1 ⟨rfl,hg1⟩
  have hb1:=((hb.alloc _).alloc _).kept hg1 (by simp)
  have k0:=hg1.cell (a:=⟨w.heap.size+1,0,none⟩) (v:=.int .i64 l) (by simp[go_sem]) (by simp)
  have k1:=hg1.cell (a:=⟨w.heap.size+1,1,none⟩) (v:=.int .i64 u) (by simp[go_sem]) (by simp)
  go_wp2_with fail
  go_at_call 137
  refine (H2.out _ hb1).mono ?_
  rintro e w2 ⟨rfl,hg2⟩
  go_wp2
  go_ret
  exact⟨rfl,ae (ae (ab (ab (ag _ _) _) _) hg1) hg2⟩
end Go.Proofs.YthlhbjnkohinmabGreat
