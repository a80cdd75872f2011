import Derived.Test.YthlhbjnkohinmaaGreatP09
import Derived.Test.YthlhbjnkohinmaaGreatP08
import Derived.Test.YthlhbjnkohinmaaGreatP11
import Derived.Test.YthlhbjnkohinmaaGreatP14
import Derived.Deep.AppendLies
import Derived.Test.YthlhbjnkohinmaaGreatRows
import Derived.Test.YthlhbjnkohinmaaGreatP12
namespace Go.Proofs.YthlhbjnkohinmaaGreat
set_option maxRecDepth 100000
set_option maxHeartbeats 8000000
open Go.RowKit
def ix (Φ:World→Prop):eV:=fun w f=>(∀ b∈f,b<w.heap.size)∧∀ w':World,(∀ b∈f,w'.heap[b]?=w.heap[b]?)→Φ w'
theorem ix.framed (Φ:World→Prop):bS (ix Φ):=by
 rintro S w w' f ⟨h1,h2⟩ hf hs
 refine⟨fun b hb=>Nat.lt_of_lt_of_le (h1 b hb) hf.size,fun w2 h=>h2 w2 (fun b hb=>(h b hb).trans (hf.block b (h1 b hb) (hs b hb)))⟩
theorem ix.within (Φ:World→Prop):bX (ix Φ):=fun h g hg=>h.1 g hg
theorem ix.now {Φ:World→Prop} {w:World} {f:List Nat} (h:ix Φ w f):Φ w:=h.2 w (fun _ _=>rfl)
theorem iK {w w':World} {B:Nat} {e:TypeId} {size:Nat} {v:Value} {n:Nat} {xs:List Value} (h:w.ownsRow B e size v n xs)
  (hk:∀ g cs,B≤g→w.heap[g]?=some (.cells cs e (0,0))→w'.heap[g]?=w.heap[g]?):w'.ownsRow 0 e size v n xs:=by
 obtain⟨h1,h2⟩:=h
 refine⟨h1,?_⟩
 rcases h2 with h2|⟨g,cap,cur,rfl,hb,hh,h3⟩
 ·exact .inl h2
 ·exact .inr ⟨g,cap,cur,rfl,Nat.zero_le _,(hk g _ hb hh).trans hh,h3⟩
def o8 (B:Nat) (t1 t2:TypeId) (w w':World):Prop:=∀ g cs t,B≤g→w.heap[g]?=some (.cells cs t (0,0))→t≠t1→t≠t2→w'.heap[g]?=w.heap[g]?
theorem oN {w w':World} {B:Nat} {s:ByteArray} (hk:o8 B 91 40 w w'):∀ (R:List ax) (xs:List Value),jI w B s R xs→jI w' 0 s R xs
 |[],_,h=>h
 |r::R,xs,h=>by
  obtain⟨a1,m1,c1,a2,m2,c2,ys,rfl,k1,k2,k3⟩:=h
  exact⟨a1,m1,c1,a2,m2,c2,ys,rfl,iK k1 (fun g cs h1 h2=>hk g cs _ h1 h2 (by decide) (by decide)),iK k2 (fun g cs h1 h2=>hk g cs _ h1 h2 (by decide) (by decide)),oN hk R ys k3⟩
theorem mM {w w':World} {B:Nat} {s:ByteArray} (hk:o8 B 91 40 w w'):∀ (R:List ax) (xs:List Value),fX w B s R xs→fX w' 0 s R xs
 |[],_,h=>h
 |r::R,xs,h=>by
  obtain⟨a1,m1,c1,a2,m2,c2,ys,rfl,k1,k2,k3⟩:=h
  exact⟨a1,m1,c1,a2,m2,c2,ys,rfl,iK k1 (fun g cs h1 h2=>hk g cs _ h1 h2 (by decide) (by decide)),iK k2 (fun g cs h1 h2=>hk g cs _ h1 h2 (by decide) (by decide)),mM hk R ys k3⟩
theorem qx {w w':World} {B:Nat} {s:ByteArray} {v:Value} {R:List ax} (h:bQ w B s v R) (hk:o8 B 91 40 w w'):bQ w' 0 s v R:=by
 obtain⟨xs,h1,h2⟩:=h
 exact⟨xs,iK h1 (fun g cs a b=>hk g cs _ a b (by decide) (by decide)),oN hk R xs h2⟩
theorem tI {w w':World} {B:Nat} {s:ByteArray} {v:Value} {R:List ax} (h:jp w B s v R) (hk:o8 B 91 40 w w'):jp w' 0 s v R:=by
 obtain⟨xs,h1,h2⟩:=h
 exact⟨xs,iK h1 (fun g cs a b=>hk g cs _ a b (by decide) (by decide)),mM hk R xs h2⟩
def jX (w:World) (B x y:Nat):List Nat:=(List.range w.heap.size).filter fun g=>decide (B≤g)&&decide (g≠x)&&decide (g≠y)
theorem gS {w:World} {B x y g:Nat}:g∈jX w B x y↔g<w.heap.size∧B≤g∧g≠x∧g≠y:=by
 simp[jX,and_assoc]
theorem mA (w:World) (B x y:Nat):(jX w B x y).Nodup:=List.nodup_range.sublist List.filter_sublist
theorem bJ.within {Q:Value→eV} (hQ:∀ v,bX (Q v)) (y:Nat) (E:bk):bX (bJ Q y E):=by
 rintro w f ⟨rv,cv,kv,ov,cs,ps,h⟩
 exact bY.within (e7.within _ _ _) (bY.within (hQ rv) (bY.within (bn.within _ _ _ _ _) (bY.within (aA.within (fun _ _=>bn.within _ _ _ _ _) _ _) (bY.within (bn.within _ _ _ _ _) (bY.within (bn.within _ _ _ _ _) (aA.within eA.within _ _)))))) h
theorem rP (X:ap):(a8 X).2.src=X.src:=by unfold a8;cases ba X 0 <;> rfl
theorem uL (X:ap) (n:Int) (s:ByteArray):(cj X n s).2.src=X.src:=by
 unfold cj
 cases aL X n with
 |none=>rfl
 |some k=>cases eP s <;> rfl
theorem pi (X:ap) (n:Int) (s:ByteArray):(aY X n s).2.src=X.src:=by
 unfold aY
 cases aL X n with
 |none=>rfl
 |some k=>cases eC s <;> rfl
theorem pl (X:ap) (n:Int):(aX X n).2.src=X.src:=by
 unfold aX
 cases aL X n <;> rfl
abbrev ex (k a b c:Int) (s:ByteArray):Value:=.agg #[.int .i64 k,.int .i64 a,.int .i64 b,.int .i64 c,.string s]
abbrev Fj (k a b c:Int) (s:ByteArray):Obj:=.cells #[.int .i64 k,.int .i64 a,.int .i64 b,.int .i64 c,.string s] 30
def E0 (room:Int):bk:=⟨room,[],[],[],0⟩
def na (a:Int) (n:Nat):Nat:=(mF a n).toNat
theorem vS (a:Int) {n:Nat} (h:0<n):na a n<n:=by
 have:=uX a n (by omega)
 unfold na
 omega
theorem ve (a:Int) {n:Nat} (h:0<n):((na a n:Nat):Int)=mF a n:=by
 have:=uX a n (by omega)
 unfold na
 omega
open Go.ChangeShapes Go.WideShapes Go.ChangeAt Go.RowKit Go.Deep
theorem zk (w:World) (a:Option Addr) (cap:Nat) (last lo hi:Int) :
  Calls Tryz.prog 9 #[.slice a 0 cap,.int .i64 last,.bool true,.int .i64 lo,.int .i64 hi] w fun e w'=>e=.returned (.int .i64 (-1))∧Below w.heap.size w w':=by
 go_enter Tryz.func9,Tryz.ntmps9
 go_wp2_with fail
 refine wp_loop_rounds 1 ?_
 rw[rounds_succ]
 go_wp2
 go_ret
 exact⟨rfl,(Below.refl _ w).alloc (Nat.le_refl _) _⟩
theorem Cj {H:Type} (d:DataW H):1≤Rows.uptoBulk d:=by
 cases d with
 |lit l=>cases l <;> simp[Rows.uptoBulk]
 |nil=>simp[Rows.uptoBulk]
 |ptr d=>simp[Rows.uptoBulk]
 |slice elems spare=>simp[Rows.uptoBulk]
 |agg parts=>simp[Rows.uptoBulk]
 |iface t d=>simp[Rows.uptoBulk]
 |map entries=>simp[Rows.uptoBulk]
 |held h=>simp[Rows.uptoBulk]
theorem BS {H:Type} (l:List (DataW H)):l.length≤Rows.uptoBulkAll l:=by
 induction l with
 |nil=>simp[Rows.uptoBulkAll]
 |cons x r ih=>
  have:=Cj x
  simp only[Rows.uptoBulkAll,List.length_cons]
  omega
theorem wW {H:Type} {elems spare:List (DataW H)} (hk:Rows.uptoSmall H ([.slice elems spare]++[])=true):elems.length≤1048576:=by
 have h:Rows.uptoBulkAll [DataW.slice elems spare]≤1048576:=of_decide_eq_true hk
 have h1:=BS elems
 simp only[Rows.uptoBulkAll,Rows.uptoBulk] at h
 omega
open Go.RowKit
abbrev gt:=List (Int×Option Int)
def jQ (h:gt) (t:Int) (p:Int×Option Int):Bool:=decide (t<p.1)||(decide (p.1=(aM h t).1)&&p.2.isSome)
def dx (h:gt) (t:Int):gt:=h.filter (jQ h t)
structure wy (h:gt):Prop where
 ord:h.Pairwise (fun p q=>p.1<q.1)
 pos:∀ p∈h,1≤p.1
def wq (h:gt) (t:Int):gt:=h.filter fun p=>decide (p.1≤t)
def Fl (h:gt) (t:Int):gt:=h.filter fun p=>decide (t<p.1)
theorem wy.sub {h g:gt} (hi:wy h) (hs:g.Sublist h):wy g:=⟨hi.ord.sublist hs,fun p hp=>hi.pos p (hs.subset hp)⟩
theorem wy.swept {h:gt} (hi:wy h) (t:Int):wy (dx h t):=hi.sub List.filter_sublist
theorem Ep:wy []:=⟨List.Pairwise.nil,fun p hp=>by cases hp⟩
theorem wy.snoc {h:gt} (hi:wy h) {p:Int×Option Int} (hp:∀ q∈h,q.1<p.1) (h1:1≤p.1):wy (h++[p]):=by
 refine⟨?_,fun q hq=>?_⟩
 ·rw[List.pairwise_append]
  refine⟨hi.ord,List.pairwise_singleton _ _,fun a ha b hb=>?_⟩
  rw[List.mem_singleton] at hb
  rw[hb]
  exact hp a ha
 ·rcases List.mem_append.mp hq with hq|hq
  ·exact hi.pos q hq
  ·rw[List.mem_singleton] at hq
   rw[hq]
   exact h1
theorem ts:∀ {h:gt},h.Pairwise (fun p q=>p.1<q.1)→∀ t,h=wq h t++Fl h t
 |[],_,_=>rfl
 |p::h,hi,t=>by
  rw[List.pairwise_cons] at hi
  have ih:=ts hi.2 t
  unfold wq Fl at*
  by_cases e:p.1≤t
  ·rw[List.filter_cons_of_pos (by simpa using e),List.filter_cons_of_neg (by simp;omega),List.cons_append,←ih]
  ·have h0:h.filter (fun p=>decide (p.1≤t))=[]:=by
    rw[List.filter_eq_nil_iff]
    intro q hq
    have:=hi.1 q hq
    simp
    omega
   rw[List.filter_cons_of_neg (by simpa using e),List.filter_cons_of_pos (by simp;omega),h0,List.nil_append]
   rw[h0,List.nil_append] at ih
   rw[←ih]
theorem mz (h:gt) (t:Int):aM h t=(wq h t).getLast?.getD (0,none):=by
 unfold aM wq
 rw[←List.head?_reverse,←List.filter_reverse,List.head?_filter]
 cases h.reverse.find? (fun p=>decide (p.1≤t)) <;> rfl
def qm (p:Int×Option Int):gt:=if p.2.isSome then [p] else []
theorem CH {h:gt} (hi:wy h) (t:Int):dx h t=qm (aM h t)++Fl h t:=by
 have hs:=ts hi.ord t
 have h1:(Fl h t).filter (jQ h t)=Fl h t:=by
  rw[List.filter_eq_self]
  intro p hp
  have:=(List.mem_filter.mp hp).2
  unfold jQ
  simp only[decide_eq_true_eq] at this
  simp[this]
 have h2:(wq h t).filter (jQ h t)=qm (aM h t):=by
  have hp:(wq h t).Pairwise (fun p q=>p.1<q.1):=hi.ord.sublist List.filter_sublist
  have hle:∀ p∈wq h t,¬t<p.1:=fun p hp=>by
   have:=(List.mem_filter.mp hp).2
   simp at this
   omega
  have hv:=mz h t
  rcases List.eq_nil_or_concat (wq h t) with e|⟨A,q,e⟩
  ·rw[e] at hv ⊢
   rw[hv]
   rfl
  ·rw[List.concat_eq_append] at e
   rw[e] at hv hp hle ⊢
   have hq:aM h t=q:=by rw[hv];simp
   rw[List.filter_append,hq]
   rw[List.pairwise_append] at hp
   have h0:A.filter (jQ h t)=[]:=by
    rw[List.filter_eq_nil_iff]
    intro p hpA
    have a1:=hp.2.2 p hpA q (by simp)
    have a2:=hle p (by simp[hpA])
    unfold jQ
    rw[hq]
    simp[a2]
    omega
   rw[h0,List.nil_append]
   have a3:=hle q (by simp)
   unfold qm
   simp only[List.filter_cons,List.filter_nil,jQ,hq]
   simp[a3]
 conv=>lhs;unfold dx
 conv=>lhs;arg 2;rw[hs]
 rw[List.filter_append,h1,h2]
def eZ (p q:Int×Option Int):Prop:=p.2=q.2∧(p.2.isSome=true→p=q)
theorem eZ.refl (p:Int×Option Int):eZ p p:=⟨rfl,fun _=>rfl⟩
theorem eZ.trans {p q r:Int×Option Int} (h:eZ p q) (k:eZ q r):eZ p r:=⟨h.1.trans k.1,fun e=>(h.2 e).trans (k.2 (by rw[←h.1];exact e))⟩
theorem F6 {h:gt} {t u:Int} (htu:t≤u) (hi:h.Pairwise (fun p q=>p.1<q.1)):wq h u=wq h t++wq (Fl h t) u:=by
 conv=>lhs;rw[ts hi t]
 unfold wq
 rw[List.filter_append]
 congr 1
 rw[List.filter_filter]
 apply List.filter_congr
 intro p _
 by_cases e:p.1≤t
 ·have:p.1≤u:=by omega
  simp[e,this]
 ·simp[e]
theorem zK {p:Int×Option Int} (q:Int×Option Int) (hq:q.2=none):eZ ((qm p).getLast?.getD q) p:=by
 unfold qm
 cases hp:p.2 with
 |none=>
  simp only[Option.isSome_none,Bool.false_eq_true,if_false,List.getLast?_nil,Option.getD_none]
  exact⟨by rw[hq,hp],fun e=>by rw[hq] at e;cases e⟩
 |some v=>
  simp only[Option.isSome_some,if_true,List.getLast?_singleton,Option.getD_some]
  exact .refl _
theorem wC {h:gt} (hi:wy h) {t u:Int} (htu:t≤u):eZ (aM (dx h t) u) (aM h u):=by
 have e1:wq (dx h t) u=qm (aM h t)++wq (Fl h t) u:=by
  rw[CH hi t]
  unfold wq
  rw[List.filter_append]
  congr 1
  rw[List.filter_eq_self]
  intro p hp
  unfold qm at hp
  split at hp
  ·rename_i hs
   rw[List.mem_singleton] at hp
   subst hp
   have:(aM h t).1≤t:=by
    unfold aM at hs ⊢
    cases hf:h.reverse.find? (fun p=>decide (p.1≤t)) with
    |none=>rw[hf] at hs;cases hs
    |some q=>
     have:=List.find?_some hf
     simpa using this
   simp
   omega
  ·cases hp
 have e2:=F6 htu hi.ord
 rw[mz (dx h t) u,mz h u,e1,e2]
 rcases List.eq_nil_or_concat (wq (Fl h t) u) with e|⟨A,q,e⟩
 ·rw[e,List.append_nil,List.append_nil,←mz h t]
  exact zK _ rfl
 ·rw[List.concat_eq_append] at e
  rw[e,←List.append_assoc,←List.append_assoc]
  simp only[List.getLast?_append,List.getLast?_singleton,Option.some_or,Option.getD_some]
  exact .refl _
theorem ux (h:gt) (t:Int):(dx h t).length≤h.length:=List.length_filter_le _ _
def ap.swept (X:ap) (t:Int):ap:={ X with hist:=fun c=>dx (X.hist c) t }
def cN (X:ap):Nat→Int
 |0=>X.latest
 |k+1=>if 0<(X.ses k).num∧(X.ses k).snap<cN X k then (X.ses k).snap else cN X k
def ch (X:ap):Int×ap:=((keptN X 60:Int) - (keptN (X.swept (cN X 8)) 60:Int),X.swept (cN X 8))
theorem gV (X:ap) (t:Int):∀ n,keptN (X.swept t) n≤keptN X n
 |0=>Nat.le_refl 0
 |n+1=>by
  have:=gV X t n
  have h2:=ux (X.hist n) t
  unfold keptN
  show keptN (X.swept t) n+(dx (X.hist n) t).length≤_
  omega
def cK (X:ap) (m:Nat):Bool×ap:=if ((keptN X 60+m:Nat):Int)≤X.room then (true,X) else (decide (((keptN (X.swept (cN X 8)) 60+m:Nat):Int)≤X.room),X.swept (cN X 8))
def bH (X:ap) (n:Int):(Int×Int)×ap:=match aL X n with
 |none=>((0,6),X)
 |some k=>if kC (X.ses k) then (if clash X (X.ses k) then ((0,10),X.setSes k .zero) else (if (cK X (cw (X.ses k) 60)).1 then ((X.latest+1,0),((cK X (cw (X.ses k) 60)).2.setSes k .zero).commit (X.ses k)) else ((0,11),(cK X (cw (X.ses k) 60)).2))) else ((0,0),X.setSes k .zero)
def aI.bare (S:aI):aI:={ S with mks:=none }
def ap.plain (X:ap):ap:={ X with src:=((.bool false,X.src.1.2),X.src.2),ses:=fun k=>(X.ses k).bare }
abbrev dN:=Nat→Nat→Option Int
def uQ:Nat→Option Int:=fun _=>none
def cy (X X':ap) (F:dN):dN:=fun k=>if (X'.ses k).num=(X.ses k).num then F k else uQ
def jD (X X':ap):Prop:=∀ k,k<8→((X'.ses k).num=(X.ses k).num→(X'.ses k).mks=(X.ses k).mks)∧((X'.ses k).num≠(X.ses k).num→(X'.ses k).mks=none)
theorem jD.same {X X':ap} (h:X'.ses=X.ses):jD X X':=fun k _=>⟨fun _=>by rw[h],fun e=>absurd (by rw[h]) e⟩
theorem jD.set {X X':ap} {k:Nat} {S:aI} (h:X'.ses=cH X.ses k S) (h1:S.num=(X.ses k).num→S.mks=(X.ses k).mks) (h2:S.num≠(X.ses k).num→S.mks=none):jD X X':=by
 intro j _
 rw[h]
 by_cases e:j=k
 ·subst e
  rw[aW]
  exact⟨h1,h2⟩
 ·rw[bE _ _ _ e]
  exact⟨fun _=>rfl,fun c=>absurd rfl c⟩
theorem eG (X:ap) (k:Nat) (S:aI):(X.setSes k S).plain=X.plain.setSes k S.bare:=by
 unfold ap.plain ap.setSes
 congr 1
 funext j
 simp only[cH]
 split <;> rfl
theorem ed {X:ap} {n:Int} {k:Nat} (h:aL X n=some k):k<8∧(X.ses k).num=n∧1≤n:=by
 unfold aL at h
 split at h
 ·cases h
 ·obtain⟨h1,h2⟩:=bu h
  exact⟨h1,h2,by omega⟩
theorem oH (X:ap) (ho:0≤X.opened):(a8 X).1=(a8 X.plain).1∧(a8 X).2.plain=(a8 X.plain).2∧(a8 X).2.src=X.src∧jD X (a8 X).2:=by
 have e:ba X.plain 0=ba X 0:=rfl
 unfold a8
 rw[e]
 cases hf:ba X 0 with
 |none=>exact⟨rfl,rfl,rfl,.same rfl⟩
 |some k=>
  obtain⟨_,h0⟩:=bu hf
  refine⟨rfl,?_,rfl,.set (k:=k) (S:=.new (X.opened+1) X.latest) rfl (fun h=>?_) (fun _=>rfl)⟩
  ·unfold ap.plain
   simp only[]
   congr 1
   funext j
   simp only[cH]
   split <;> rfl
  ·have:X.opened+1=0:=by rw[←h0];exact h
   omega
theorem pu (X:ap) (n:Int) (s:ByteArray):(cj X n s).1=(cj X.plain n s).1∧(cj X n s).2.plain=(cj X.plain n s).2∧(cj X n s).2.src=X.src∧jD X (cj X n s).2:=by
 have e:aL X.plain n=aL X n:=rfl
 unfold cj
 rw[e]
 cases hf:aL X n with
 |none=>exact⟨rfl,rfl,rfl,.same rfl⟩
 |some k=>
  cases eP s with
  |false=>exact⟨rfl,rfl,rfl,.same rfl⟩
  |true=>exact⟨rfl,eG _ _ _,rfl,.set rfl (fun _=>rfl) (fun h=>absurd rfl h)⟩
theorem nC (X:ap) (n:Int) (s:ByteArray):(aY X n s).1=(aY X.plain n s).1∧(aY X n s).2.plain=(aY X.plain n s).2∧(aY X n s).2.src=X.src∧jD X (aY X n s).2:=by
 have e:aL X.plain n=aL X n:=rfl
 unfold aY
 rw[e]
 cases hf:aL X n with
 |none=>exact⟨rfl,rfl,rfl,.same rfl⟩
 |some k=>
  cases eC s with
  |false=>exact⟨rfl,rfl,rfl,.same rfl⟩
  |true=>exact⟨rfl,eG _ _ _,rfl,.set rfl (fun _=>rfl) (fun h=>absurd rfl h)⟩
theorem nq {X X':ap} {n:Int} {k:Nat} (hf:aL X n=some k) (h:X'.ses=cH X.ses k .zero):jD X X':=by
 obtain⟨_,h1,h2⟩:=ed hf
 refine .set h (fun e=>?_) (fun _=>rfl)
 have:(0:Int)=(X.ses k).num:=e
 omega
theorem mG (X:ap) (n:Int):(aX X n).1=(aX X.plain n).1∧(aX X n).2.plain=(aX X.plain n).2∧(aX X n).2.src=X.src∧jD X (aX X n).2:=by
 have e:aL X.plain n=aL X n:=rfl
 unfold aX
 rw[e]
 cases hf:aL X n with
 |none=>exact⟨rfl,rfl,rfl,.same rfl⟩
 |some k=>exact⟨rfl,eG _ _ _,rfl,nq hf rfl⟩
theorem fY (X:ap) (n:Nat):keptN X.plain n=keptN X n:=eJ (X:=X) (Y:=X.plain) rfl n
theorem nI (X:ap):∀ k,cN X.plain k=cN X k
 |0=>rfl
 |k+1=>by
  unfold cN
  rw[nI X k]
  rfl
theorem oO (X:ap) (t:Int):(X.swept t).plain=X.plain.swept t:=rfl
theorem mS (X:ap):(ch X).1=(ch X.plain).1∧(ch X).2.plain=(ch X.plain).2∧(ch X).2.src=X.src∧jD X (ch X).2:=by
 unfold ch
 rw[nI,fY,←oO,fY]
 exact⟨rfl,rfl,rfl,.same rfl⟩
theorem rO (S:aI):∀ n,cw S.bare n=cw S n
 |0=>rfl
 |n+1=>by
  unfold cw
  rw[rO S n]
  rfl
theorem pK (X:ap) (m:Nat):(cK X m).1=(cK X.plain m).1∧(cK X m).2.plain=(cK X.plain m).2∧(cK X m).2.src=X.src∧(cK X m).2.ses=X.ses:=by
 have e:X.plain.room=X.room:=rfl
 unfold cK
 rw[nI,fY,←oO,fY,e]
 split
 ·exact⟨rfl,rfl,rfl,rfl⟩
 ·exact⟨rfl,rfl,rfl,rfl⟩
theorem tn (X:ap) (S:aI):(X.commit S).plain=X.plain.commit S.bare:=rfl
theorem gX (X:ap) (n:Int):(bH X n).1=(bH X.plain n).1∧(bH X n).2.plain=(bH X.plain n).2∧(bH X n).2.src=X.src∧jD X (bH X n).2:=by
 have e:aL X.plain n=aL X n:=rfl
 unfold bH
 rw[e]
 cases hf:aL X n with
 |none=>exact⟨rfl,rfl,rfl,.same rfl⟩
 |some k=>
  simp only[]
  have e1:kC (X.plain.ses k)=kC (X.ses k):=rfl
  have e2:clash X.plain (X.plain.ses k)=clash X (X.ses k):=rfl
  have e3:cw (X.plain.ses k) 60=cw (X.ses k) 60:=rO _ _
  rw[e1,e2,e3]
  obtain⟨r1,r2,r3,r4⟩:=pK X (cw (X.ses k) 60)
  rw[←r1,←r2]
  cases kC (X.ses k) with
  |false=>exact⟨rfl,eG _ _ _,rfl,nq hf rfl⟩
  |true=>
   cases clash X (X.ses k) with
   |true=>exact⟨rfl,eG _ _ _,rfl,nq hf rfl⟩
   |false=>
    cases (cK X (cw (X.ses k) 60)).1 with
    |false=>exact⟨rfl,rfl,r3,.same r4⟩
    |true=>
     refine⟨rfl,?_,r3,nq hf ?_⟩
     ·show ((((cK X (cw (X.ses k) 60)).2.setSes k .zero).commit (X.ses k))).plain=_
      rw[tn,eG]
      rfl
     ·show cH (cK X (cw (X.ses k) 60)).2.ses k .zero=_
      rw[r4]
structure eO (i:Nat) (X:ap):Prop where
 opened:0≤X.opened∧X.opened≤i
 latest:0≤X.latest∧X.latest≤i
 num:∀ k,k<8→0≤(X.ses k).num∧(X.ses k).num≤X.opened
 uniq:∀ j k,j<8→k<8→(X.ses j).num=(X.ses k).num→(X.ses j).num=0∨j=k
 snap:∀ k,k<8→0≤(X.ses k).snap∧(X.ses k).snap≤X.latest
 made:∀ k,k<8→0≤(X.ses k).made∧(X.ses k).made≤400*i
 wr:∀ k,k<8→∀ c v,(X.ses k).wr c=some (some v)→0≤v∧v≤9
 inc:∀ c,wy (X.hist c)
 his:∀ c,∀ p∈X.hist c,p.1≤X.latest∧∀ v,p.2=some v→0≤v∧v≤9
 kept:(keptN X 60:Int)≤X.room
 room:1≤X.room∧X.room≤999
theorem r7 {X Y:ap} (h:(keptN X 60:Int)≤X.room) (e:Y.hist=X.hist) (r:Y.room=X.room):(keptN Y 60:Int)≤Y.room:=by rw[eJ e,r];exact h
theorem eO.mono {i j:Nat} {X:ap} (h:eO i X) (hij:i≤j):eO j X:=
 ⟨by have:=h.opened;omega,by have:=h.latest;omega,h.num,h.uniq,h.snap,fun k hk=>by have:=h.made k hk;omega,h.wr,h.inc,h.his,h.kept,h.room⟩
theorem eO.setSes {i:Nat} {X:ap} (h:eO i X) {k:Nat} {S:aI} (hk:k<8) (hnum:S.num=(X.ses k).num∨S.num=0) (hsn:0≤S.snap∧S.snap≤X.latest) (hmd:0≤S.made∧S.made≤400*i) (hwr:∀ c v,S.wr c=some (some v)→0≤v∧v≤9):eO i (X.setSes k S):=by
 have hs:∀ j,j≠k→(X.setSes k S).ses j=X.ses j:=fun j e=>bE _ _ _ e
 have hself:(X.setSes k S).ses k=S:=aW _ _ _
 refine⟨h.opened,h.latest,fun j hj=>?_,fun j l hj hl he=>?_,fun j hj=>?_,fun j hj=>?_,fun j hj=>?_,h.inc,h.his,r7 h.kept rfl rfl,h.room⟩
 ·by_cases e:j=k
  ·subst e
   rw[hself]
   have h1:=h.num j hj
   have h2:=h.opened
   show 0≤S.num∧S.num≤X.opened
   rcases hnum with e|e <;> omega
  ·rw[hs j e]
   exact h.num j hj
 ·by_cases e:j=k
  ·by_cases e2:l=k
   ·exact .inr (e.trans e2.symm)
   ·rw[e,hself,hs l e2] at he
    rw[e,hself]
    rcases hnum with e3|e3
    ·rw[e3] at he ⊢
     rcases h.uniq k l hk hl he with h1|h1
     ·exact .inl h1
     ·exact absurd h1.symm e2
    ·exact .inl e3
  ·by_cases e2:l=k
   ·rw[e2,hself,hs j e] at he
    rw[hs j e]
    rcases hnum with e3|e3
    ·rw[e3] at he
     rcases h.uniq j k hj hk he with h1|h1
     ·exact .inl h1
     ·exact absurd h1 e
    ·exact .inl (by rw[he];exact e3)
   ·rw[hs j e,hs l e2] at he
    rw[hs j e]
    exact h.uniq j l hj hl he
 ·by_cases e:j=k
  ·subst e;rw[hself];exact hsn
  ·rw[hs j e];exact h.snap j hj
 ·by_cases e:j=k
  ·subst e;rw[hself];exact hmd
  ·rw[hs j e];exact h.made j hj
 ·by_cases e:j=k
  ·subst e;rw[hself];exact hwr
  ·rw[hs j e];exact h.wr j hj
theorem eO.zero {i:Nat} {X:ap} (h:eO i X) {k:Nat} (hk:k<8):eO i (X.setSes k .zero):=
 h.setSes hk (.inr rfl) ⟨Int.le_refl 0,h.latest.1⟩ ⟨Int.le_refl 0,by show (0:Int)≤400*i;omega⟩ (fun c v e=>by cases e)
theorem eO.write {i:Nat} {X:ap} (h:eO i X) {k:Nat} (hk:k<8) (c:Nat) (v:Option Int) (hv:∀ u,v=some u→0≤u∧u≤9):eO (i+1) (X.setSes k ((X.ses k).put c v)):=by
 refine (h.mono (Nat.le_succ i)).setSes hk (.inl rfl) (h.snap k hk) ?_ (fun d u e=>?_)
 ·have:=h.made k hk
  show 0≤(X.ses k).made+1∧(X.ses k).made+1≤400*((i+1:Nat):Int)
  omega
 ·have e':cH (X.ses k).wr c (some v) d=some (some u):=e
  unfold cH at e'
  split at e'
  ·simp only[Option.some.injEq] at e'
   exact hv u e'
  ·exact h.wr k hk d u e'
theorem eO.open {i:Nat} {X:ap} (h:eO i X):eO (i+1) (a8 X).2:=by
 unfold a8
 cases hf:ba X 0 with
 |none=>exact h.mono (Nat.le_succ i)
 |some k=>
  obtain⟨hk,h0⟩:=bu hf
  have ho:=h.opened
  have hl:=h.latest
  have hs:∀ j,j≠k→cH X.ses k (.new (X.opened+1) X.latest) j=X.ses j:=fun j e=>bE _ _ _ e
  have hself:cH X.ses k (.new (X.opened+1) X.latest) k=.new (X.opened+1) X.latest:=aW _ _ _
  refine⟨?_,?_,fun j hj=>?_,fun j l hj hl he=>?_,fun j hj=>?_,fun j hj=>?_,fun j hj=>?_,h.inc,h.his,r7 h.kept rfl rfl,h.room⟩
  ·show 0≤X.opened+1∧X.opened+1≤((i+1:Nat):Int);omega
  ·show 0≤X.latest∧X.latest≤((i+1:Nat):Int);omega
  ·show 0≤(cH X.ses k _ j).num∧(cH X.ses k _ j).num≤X.opened+1
   by_cases e:j=k
   ·subst e
    rw[hself]
    show 0≤X.opened+1∧X.opened+1≤X.opened+1
    omega
   ·rw[hs j e]
    have:=h.num j hj
    omega
  ·have he':(cH X.ses k (.new (X.opened+1) X.latest) j).num=(cH X.ses k (.new (X.opened+1) X.latest) l).num:=he
   show (cH X.ses k _ j).num=0∨j=l
   by_cases e:j=k
   ·by_cases e2:l=k
    ·exact .inr (e.trans e2.symm)
    ·rw[e,hself,hs l e2] at he'
     have:=h.num l hl
     have h3:X.opened+1=(X.ses l).num:=he'
     omega
   ·by_cases e2:l=k
    ·rw[e2,hself,hs j e] at he'
     have:=h.num j hj
     have h3:(X.ses j).num=X.opened+1:=he'
     omega
    ·rw[hs j e,hs l e2] at he'
     rw[hs j e]
     exact h.uniq j l hj hl he'
  ·show 0≤(cH X.ses k _ j).snap∧(cH X.ses k _ j).snap≤X.latest
   by_cases e:j=k
   ·subst e;rw[hself];exact⟨hl.1,Int.le_refl _⟩
   ·rw[hs j e];exact h.snap j hj
  ·show 0≤(cH X.ses k _ j).made∧(cH X.ses k _ j).made≤400*((i+1:Nat):Int)
   by_cases e:j=k
   ·subst e;rw[hself];show (0:Int)≤0∧(0:Int)≤400*((i+1:Nat):Int);omega
   ·rw[hs j e];have:=h.made j hj;omega
  ·show ∀ c v,(cH X.ses k _ j).wr c=some (some v)→0≤v∧v≤9
   by_cases e:j=k
   ·subst e;rw[hself];intro c v hv;cases hv
   ·rw[hs j e];exact h.wr j hj
theorem eO.put {i:Nat} {X:ap} (h:eO i X) (n:Int) (s:ByteArray):eO (i+1) (cj X n s).2:=by
 unfold cj
 cases hf:aL X n with
 |none=>exact h.mono (Nat.le_succ i)
 |some k=>
  cases hb:eP s with
  |false=>exact h.mono (Nat.le_succ i)
  |true=>
   refine h.write (ed hf).1 _ _ (fun u e=>?_)
   unfold eP at hb
   simp only[Bool.and_eq_true] at hb
   have:=hb.2
   simp[bM] at this
   simp only[Option.some.injEq] at e
   omega
theorem eO.clear {i:Nat} {X:ap} (h:eO i X) (n:Int) (s:ByteArray):eO (i+1) (aY X n s).2:=by
 unfold aY
 cases hf:aL X n with
 |none=>exact h.mono (Nat.le_succ i)
 |some k=>
  cases eC s with
  |false=>exact h.mono (Nat.le_succ i)
  |true=>exact h.write (ed hf).1 _ _ (fun u e=>by cases e)
theorem eO.abort {i:Nat} {X:ap} (h:eO i X) (n:Int):eO (i+1) (aX X n).2:=by
 unfold aX
 cases hf:aL X n with
 |none=>exact h.mono (Nat.le_succ i)
 |some k=>exact (h.mono (Nat.le_succ i)).zero (ed hf).1
theorem eO.swept {i:Nat} {X:ap} (h:eO i X) (t:Int):eO i (X.swept t):=
 ⟨h.opened,h.latest,h.num,h.uniq,h.snap,h.made,h.wr,fun c=>(h.inc c).swept t,fun c p hp=>h.his c p (List.filter_sublist.subset hp),by have:=gV X t 60;have:=h.kept;show (keptN (X.swept t) 60:Int)≤X.room;omega,h.room⟩
theorem eO.sweep {i:Nat} {X:ap} (h:eO i X):eO (i+1) (ch X).2:=(h.mono (Nat.le_succ i)).swept _
theorem eO.roomed {i:Nat} {X:ap} (h:eO i X) (m:Nat):eO i (cK X m).2:=by
 unfold cK
 split
 ·exact h
 ·exact h.swept _
theorem r8 (X:ap) (P:aI):∀ n,keptN (X.commit P) n=keptN X n+cw P n
 |0=>rfl
 |n+1=>by
  have h1:keptN (X.commit P) (n+1)=keptN (X.commit P) n+((X.commit P).hist n).length:=rfl
  have h2:keptN X (n+1)=keptN X n+(X.hist n).length:=rfl
  have h3:cw P (n+1)=cw P n+(if (P.wr n).isSome then 1 else 0):=rfl
  have h4:((X.commit P).hist n).length=(X.hist n).length+(if (P.wr n).isSome then 1 else 0):=by
   show (match P.wr n with|some v=>X.hist n++[(X.latest+1,v)]|none=>X.hist n).length=_
   cases P.wr n <;> simp
  rw[h1,h2,h3,h4,r8 X P n]
  omega
theorem Bh {X:ap} {m:Nat} (h:(cK X m).1=true):((keptN (cK X m).2 60+m:Nat):Int)≤X.room:=by
 unfold cK at h ⊢
 split
 ·rename_i hr
  exact hr
 ·rename_i hr
  rw[if_neg hr] at h
  exact of_decide_eq_true h
theorem eO.committed {i:Nat} {X:ap} (h:eO i X) {S:aI} (hw:∀ c v,S.wr c=some (some v)→0≤v∧v≤9) (hr:((keptN X 60+cw S 60:Nat):Int)≤X.room):eO (i+1) (X.commit S):=by
 have hl:=h.latest
 have hh:∀ c,(X.commit S).hist c=X.hist c∨∃ v,S.wr c=some v∧(X.commit S).hist c=X.hist c++[(X.latest+1,v)]:=fun c=>by
  show (match S.wr c with|some v=>X.hist c++[(X.latest+1,v)]|none=>X.hist c)=_∨_
  cases hc:S.wr c with
  |none=>exact .inl rfl
  |some v=>
   refine .inr ⟨v,rfl,?_⟩
   show (match S.wr c with|some v=>X.hist c++[(X.latest+1,v)]|none=>X.hist c)=_
   rw[hc]
 refine⟨by have:=h.opened;show 0≤X.opened∧X.opened≤((i+1:Nat):Int);omega,by show 0≤X.latest+1∧X.latest+1≤((i+1:Nat):Int);omega,h.num,h.uniq,fun k hk=>by
  have:=h.snap k hk
  show 0≤(X.ses k).snap∧(X.ses k).snap≤X.latest+1
  omega,fun k hk=>by
  have:=h.made k hk
  show 0≤(X.ses k).made∧(X.ses k).made≤400*((i+1:Nat):Int)
  omega,h.wr,fun c=>?_,fun c p hp=>?_,by rw[r8];exact hr,h.room⟩
 ·rcases hh c with e|⟨v,_,e⟩
  ·rw[e];exact h.inc c
  ·rw[e]
   exact (h.inc c).snoc (fun q hq=>by have:=(h.his c q hq).1;show q.1<X.latest+1;omega) (by show 1≤X.latest+1;omega)
 ·show p.1≤X.latest+1∧_
  rcases hh c with e|⟨v,hv,e⟩
  ·rw[e] at hp
   have:=h.his c p hp
   exact⟨by omega,this.2⟩
  ·rw[e] at hp
   rcases List.mem_append.mp hp with hp|hp
   ·have:=h.his c p hp
    exact⟨by omega,this.2⟩
   ·rw[List.mem_singleton] at hp
    subst hp
    exact⟨Int.le_refl _,fun u hu=>hw c u (by rw[hv];exact congrArg some hu)⟩
theorem eO.commit {i:Nat} {X:ap} (h:eO i X) (n:Int):eO (i+1) (bH X n).2:=by
 unfold bH
 cases hf:aL X n with
 |none=>exact h.mono (Nat.le_succ i)
 |some k=>
  have hk:=(ed hf).1
  simp only[]
  cases kC (X.ses k) with
  |false=>exact (h.mono (Nat.le_succ i)).zero hk
  |true=>
   cases clash X (X.ses k) with
   |true=>exact (h.mono (Nat.le_succ i)).zero hk
   |false=>
    cases hrm:(cK X (cw (X.ses k) 60)).1 with
    |false=>exact (h.mono (Nat.le_succ i)).roomed _
    |true=>
     have hfit:=Bh hrm
     obtain⟨_,_,r3,_⟩:=pK X (cw (X.ses k) 60)
     refine ((h.roomed _).zero hk).committed (h.wr k hk) ?_
     rw[eJ (X:=(cK X (cw (X.ses k) 60)).2) (Y:=(cK X (cw (X.ses k) 60)).2.setSes k .zero) rfl]
     show _≤(cK X (cw (X.ses k) 60)).2.src.1.2
     rw[r3]
     exact hfit
theorem eO.plain {i:Nat} {X:ap}:eO i X↔eO i X.plain:=
 ⟨fun h=>⟨h.opened,h.latest,h.num,h.uniq,h.snap,h.made,h.wr,h.inc,h.his,by rw[fY];exact h.kept,h.room⟩,fun h=>⟨h.opened,h.latest,h.num,h.uniq,h.snap,h.made,h.wr,h.inc,h.his,by have:=h.kept;rw[fY] at this;exact this,h.room⟩⟩
theorem eO.keptN {i:Nat} {X:ap} (h:eO i X):keptN X 60≤999:=by
 have h1:=h.kept
 have h2:=h.room
 omega
theorem eO.len {i:Nat} {X:ap} (h:eO i X) {c:Nat} (hc:c<60):(X.hist c).length≤999:=by
 have h1:=h.keptN
 have h2:=jW X (m:=c+1) (n:=60) (by omega)
 have h3:Go.Proofs.YthlhbjnkohinmaaGreat.keptN X (c+1)=Go.Proofs.YthlhbjnkohinmaaGreat.keptN X c+(X.hist c).length:=rfl
 omega
theorem eO.mores {i:Nat} {X:ap} (h:eO i X) (hi:i≤100000000000000) {n:Int} {k:Nat} (hf:aL X n=some k):(X.ses k).more:=by
 have hk:=(ed hf).1
 have h1:=h.snap k hk
 have h2:=h.made k hk
 have h3:=h.latest
 unfold aI.more
 omega
theorem nZ {h:gt} {t v:Int} (e:(aM h t).2=some v):aM h t∈h:=by
 unfold aM at e ⊢
 cases hf:h.reverse.find? (fun p=>decide (p.1≤t)) with
 |none=>rw[hf] at e;cases e
 |some q=>exact List.mem_reverse.mp (List.mem_of_find?_eq_some hf)
theorem eO.seen {i:Nat} {X:ap} (h:eO i X) {k:Nat} (hk:k<8):EQ (jg X k):=by
 intro c v _ hv
 unfold jg at hv
 cases hw:(X.ses k).wr c with
 |none=>
  rw[hw] at hv
  simp only at hv
  rw[←gn] at hv
  exact (h.his c _ (nZ hv)).2 v hv
 |some u=>
  rw[hw] at hv
  simp only at hv
  exact h.wr k hk c v (by rw[hw,hv])
end Go.Proofs.YthlhbjnkohinmaaGreat
