import Derived.Test.YthlhbjnkohinmaaGreatP08
import Derived.Test.YthlhbjnkohinmaaGreatRows
import Derived.ProofKit
import Derived.OpenShut
import Derived.ShutString
import Derived.ChangeOld
import Derived.Below
import Derived.SizedLaws
import Derived.Deep.Slices
import Derived.Test.YthlhbjnkohinmaaGreatP09
namespace Go.Proofs.YthlhbjnkohinmaaGreat
set_option maxRecDepth 100000
set_option maxHeartbeats 8000000
open Go.RowKit
theorem fU (x:Int)(w:World):Calls Tryz.prog 18 #[.int .i64 x] w fun e w'=>e=.returned (.int .i64 x)∧w=w':=by
 go_enter Tryz.func18,Tryz.ntmps18
 go_wp2
 go_ret
 exact⟨rfl,rfl⟩
def mF (c n:Int):Int:=(if c<0 then -(c+1) else c) % n
theorem uv (c n:Int)(h:0<n):0≤mF c n∧mF c n<n:=⟨Int.emod_nonneg _ (by omega),Int.emod_lt_of_pos _ h⟩
theorem CN (c:Int)(n:Nat)(w:World)(hc:-9223372036854775808≤c)(hc2:c≤9223372036854775807)(hn:0<n)(hn2:n≤9223372036854775807):
  Calls Tryz.prog 13 #[.int .i64 c,.int .i64 n] w fun e w'=>e=.returned (.int .i64 (mF c n))∧w'=w:=by
 by_cases h:c<0
 ·have e:mF c n=(-(c+1)) % (n:Int):=by simp[mF,h]
  rw[e];clear e
  go_enter Tryz.func13,Tryz.ntmps13
  go_wp2
  go_ret
  exact⟨j4 (by rw[←Int.neg_tmod,Int.tmod_eq_emod_of_nonneg (by omega)]),rfl⟩
 ·have e:mF c n=c % (n:Int):=by simp[mF,h]
  rw[e];clear e
  go_enter Tryz.func13,Tryz.ntmps13
  go_wp2
  go_ret
  exact⟨rfl,rfl⟩
theorem Tryz.info33:(Tryz.prog.info? 33).map (fun i=>(i.zero,i.size,i.bytes))=some (some (.pointer none),1,8):=by kernel_rfl
def BX (w:World)(sb o:Nat)(k a b c:Int)(s:ByteArray):Prop:=
 w.cell? ⟨sb,o,none⟩=some (.int .i64 k)∧w.cell? ⟨sb,o+1,none⟩=some (.int .i64 a)∧w.cell? ⟨sb,o+2,none⟩=some (.int .i64 b)∧w.cell? ⟨sb,o+3,none⟩=some (.int .i64 c)∧w.cell? ⟨sb,o+4,none⟩=some (.string s)∧
 -9223372036854775808≤a∧a≤9223372036854775807∧s.size≤maxLen
open Go.ChangeShapes Go.WideShapes Go.ChangeAt Go.RowKit Go.Deep
theorem Tryz.own:ownKnob Tryz.prog.godebug=none:=by kernel_rfl
theorem Tryz.laidOut:laidOutB Tryz.prog=true:=by kernel_rfl
def pu (w:World)(a:Option Addr)(len:Nat):Prop:=len=0∨∃ sb off,a=some ⟨sb,off,none⟩∧sb<w.heap.size∧∀ t,t<len→∃ k a b c s,BX w sb (off+t*5) k a b c s
theorem Tryz.bytes30:Tryz.prog.bytesOf 30=48:=by kernel_rfl
theorem Tryz.cells30:Tryz.prog.cellsOf 30=5:=by kernel_rfl
theorem Tryz.cells3:Tryz.prog.cellsOf 3=1:=by kernel_rfl
theorem Tryz.cells9:Tryz.prog.cellsOf 9=1:=by kernel_rfl
theorem Fl {α:Type}{l:List α}(h:l.length=5):∃ a b c d e,l=[a,b,c,d,e]:=by
 match l,h with
 |[a,b,c,d,e],_=>exact⟨a,b,c,d,e,rfl⟩
theorem t9 {H:Type}{enc:TypeId×Value→H}{w:World}{base:Nat}{spare:Nat→Bool}{held:Bool}{fuel:Nat}{a:Option Addr}{len cap:Nat}{x:DataW H×List MemPlace}
  (h:DataW.trod enc Tryz.prog w base spare held fuel 22 [.slice a len cap]=some x) :
  pu w a len∧∃ elems sp,(x.1=.nil∧len=0)∨(x.1=.slice elems sp∧elems.length=len):=by
 rcases open_slice Tryz.underlying22 h with ⟨hcs,hx⟩|⟨ad,l,c,m,n,D,Pl,hcs,hb,hl,hm,hmm,hx,hel⟩
 ·simp at hcs
  obtain⟨rfl,rfl,rfl⟩:=hcs
  exact⟨.inl rfl,[],[],.inl ⟨by rw[hx],rfl⟩⟩
 ·simp at hcs
  obtain⟨rfl,rfl,rfl⟩:=hcs
  refine⟨?_,_,_,.inr ⟨by rw[hx],by simp⟩⟩
  by_cases h0:len=0
  ·exact .inl h0
  right
  have hlm:len≤m:=by rw[hmm];split <;> omega
  have each:∀ i,i<m→∃ k a b c s,w.cell? (ad.add (i*5))=some (.int .i64 k)∧w.cell? (ad.add (i*5+1))=some (.int .i64 a)∧w.cell? (ad.add (i*5+2))=some (.int .i64 b)∧w.cell? (ad.add (i*5+3))=some (.int .i64 c)∧w.cell? (ad.add (i*5+4))=some (.string s)∧(Lit.int .i64 a).wf=true∧s.size≤maxLen:=by
   intro i hi
   obtain⟨cs',h1,h2⟩:=hel i hi
   rw[Tryz.cells30] at h1
   obtain⟨_,hlen,hcell⟩:=World.cells?_some h1
   obtain⟨xs,k,hk,hxy,_,hxl,hf⟩:=DataW.trod_struct Tryz.underlying30 h2
   obtain⟨y0,y1,y2,y3,y4,rfl⟩:=Fl (show xs.length=5 from hxl)
   obtain⟨v0,v1,v2,v3,v4,rfl⟩:=Fl hlen
   have g0:=hf 0 _ rfl
   have g1:=hf 1 _ rfl
   have g2:=hf 2 _ rfl
   have g3:=hf 3 _ rfl
   have g4:=hf 4 _ rfl
   simp[Tryz.cells3,Tryz.cells9] at g0 g1 g2 g3 g4
   obtain⟨n0,q0,_,_⟩:=DataW.trod_int Tryz.underlying3 g0
   obtain⟨n1,q1,_,w1⟩:=DataW.trod_int Tryz.underlying3 g1
   obtain⟨n2,q2,_,_⟩:=DataW.trod_int Tryz.underlying3 g2
   obtain⟨n3,q3,_,_⟩:=DataW.trod_int Tryz.underlying3 g3
   obtain⟨s,q4,_,w4⟩:=DataW.trod_string Tryz.underlying9 g4
   simp at q0 q1 q2 q3 q4
   subst q0 q1 q2 q3 q4
   have e0:=hcell 0 (by omega)
   have e1:=hcell 1 (by omega)
   have e2:=hcell 2 (by omega)
   have e3:=hcell 3 (by omega)
   have e4:=hcell 4 (by omega)
   rw[add_add] at e0 e1 e2 e3 e4
   exact⟨n0,n1,n2,n3,s,by simpa using e0,by simpa using e1,by simpa using e2,by simpa using e3,by simpa using e4,w1,w4⟩
  obtain⟨b,off,spot⟩:=ad
  obtain⟨_,_,_,_,_,hc0,_⟩:=each 0 (by omega)
  have hspot:spot=none:=by simpa [Addr.add] using World.cell?_spot hc0
  subst hspot
  have hadd:∀ j,(⟨b,off,none⟩:Addr).add j=⟨b,off+j,none⟩:=by intro j;unfold Addr.add;split <;> simp_all
  refine⟨b,off,rfl,?_,?_⟩
  ·exact World.block_lt_of_cell? w _ hc0
  ·intro t ht
   obtain⟨k,a,b',c,s,e0,e1,e2,e3,e4,w1,w4⟩:=each t (by omega)
   rw[hadd] at e0 e1 e2 e3 e4
   have hbd:=bounds_i64 w1
   exact⟨k,a,b',c,s,e0,e1,e2,e3,e4,hbd.1,hbd.2,w4⟩
theorem DI {H:Type}(d:DataW H):1≤Rows.uptoBulk d:=by
 cases d with
 |lit l=>cases l <;> simp[Rows.uptoBulk]
 |nil=>simp[Rows.uptoBulk]
 |ptr d=>simp[Rows.uptoBulk]
 |slice elems spare=>simp[Rows.uptoBulk]
 |agg parts=>simp[Rows.uptoBulk]
 |iface t d=>simp[Rows.uptoBulk]
 |map entries=>simp[Rows.uptoBulk]
 |held h=>simp[Rows.uptoBulk]
theorem C9 {H:Type}(l:List (DataW H)):l.length≤Rows.uptoBulkAll l:=by
 induction l with
 |nil=>simp[Rows.uptoBulkAll]
 |cons x r ih=>
  have:=DI x
  simp only[Rows.uptoBulkAll,List.length_cons]
  omega
theorem wK {H:Type}{elems spare:List (DataW H)}(hk:Rows.uptoSmall H ([.slice elems spare]++[])=true):elems.length≤1048576:=by
 have h:Rows.uptoBulkAll [DataW.slice elems spare]≤1048576:=of_decide_eq_true hk
 have h1:=C9 elems
 simp only[Rows.uptoBulkAll,Rows.uptoBulk] at h
 omega
open Go.RowKit
def iz (Φ:World→Prop):eW:=fun w f=>(∀ b∈f,b<w.heap.size)∧∀ w':World,(∀ b∈f,w'.heap[b]?=w.heap[b]?)→Φ w'
theorem iz.framed (Φ:World→Prop):bT (iz Φ):=by
 rintro S w w' f ⟨h1,h2⟩ hf hs
 refine⟨fun b hb=>Nat.lt_of_lt_of_le (h1 b hb) hf.size,fun w2 h=>h2 w2 (fun b hb=>(h b hb).trans (hf.block b (h1 b hb) (hs b hb)))⟩
theorem iz.within (Φ:World→Prop):bW (iz Φ):=fun h g hg=>h.1 g hg
theorem iz.now {Φ:World→Prop}{w:World}{f:List Nat}(h:iz Φ w f):Φ w:=h.2 w (fun _ _=>rfl)
theorem iM {w w':World}{B:Nat}{e:TypeId}{size:Nat}{v:Value}{n:Nat}{xs:List Value}(h:w.ownsRow B e size v n xs)
  (hk:∀ g cs,B≤g→w.heap[g]?=some (.cells cs e (0,0))→w'.heap[g]?=w.heap[g]?):w'.ownsRow 0 e size v n xs:=by
 obtain⟨h1,h2⟩:=h
 refine⟨h1,?_⟩
 rcases h2 with h2|⟨g,cap,cur,rfl,hb,hh,h3⟩
 ·exact .inl h2
 ·exact .inr ⟨g,cap,cur,rfl,Nat.zero_le _,(hk g _ hb hh).trans hh,h3⟩
def pc (B:Nat)(t1 t2:TypeId)(w w':World):Prop:=∀ g cs t,B≤g→w.heap[g]?=some (.cells cs t (0,0))→t≠t1→t≠t2→w'.heap[g]?=w.heap[g]?
theorem oO {w w':World}{B:Nat}{s:ByteArray}(hk:pc B 91 40 w w'):∀ (R:List ay) (xs:List Value),jV w B s R xs→jV w' 0 s R xs
 |[],_,h=>h
 |r::R,xs,h=>by
  obtain⟨a1,m1,c1,a2,m2,c2,ys,rfl,k1,k2,k3⟩:=h
  exact⟨a1,m1,c1,a2,m2,c2,ys,rfl,iM k1 (fun g cs h1 h2=>hk g cs _ h1 h2 (by decide) (by decide)),iM k2 (fun g cs h1 h2=>hk g cs _ h1 h2 (by decide) (by decide)),oO hk R ys k3⟩
theorem nB {w w':World}{B:Nat}{s:ByteArray}(hk:pc B 91 40 w w'):∀ (R:List ay) (xs:List Value),gh w B s R xs→gh w' 0 s R xs
 |[],_,h=>h
 |r::R,xs,h=>by
  obtain⟨a1,m1,c1,a2,m2,c2,ys,rfl,k1,k2,k3⟩:=h
  exact⟨a1,m1,c1,a2,m2,c2,ys,rfl,iM k1 (fun g cs h1 h2=>hk g cs _ h1 h2 (by decide) (by decide)),iM k2 (fun g cs h1 h2=>hk g cs _ h1 h2 (by decide) (by decide)),nB hk R ys k3⟩
theorem pU {w w':World}{B:Nat}{s:ByteArray}{v:Value}{R:List ay}(h:bP w B s v R)(hk:pc B 91 40 w w'):bP w' 0 s v R:=by
 obtain⟨xs,h1,h2⟩:=h
 exact⟨xs,iM h1 (fun g cs a b=>hk g cs _ a b (by decide) (by decide)),oO hk R xs h2⟩
theorem tq {w w':World}{B:Nat}{s:ByteArray}{v:Value}{R:List ay}(h:js w B s v R)(hk:pc B 91 40 w w'):js w' 0 s v R:=by
 obtain⟨xs,h1,h2⟩:=h
 exact⟨xs,iM h1 (fun g cs a b=>hk g cs _ a b (by decide) (by decide)),nB hk R xs h2⟩
def kx (w:World)(B x y:Nat):List Nat:=(List.range w.heap.size).filter fun g=>decide (B≤g)&&decide (g≠x)&&decide (g≠y)
theorem gR {w:World}{B x y g:Nat}:g∈kx w B x y↔g<w.heap.size∧B≤g∧g≠x∧g≠y:=by
 simp[kx,and_assoc]
theorem nk (w:World)(B x y:Nat):(kx w B x y).Nodup:=List.nodup_range.sublist List.filter_sublist
end Go.Proofs.YthlhbjnkohinmaaGreat
