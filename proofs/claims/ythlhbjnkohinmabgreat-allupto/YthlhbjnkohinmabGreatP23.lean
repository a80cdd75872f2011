import Derived.Test.YthlhbjnkohinmabGreatP08
import Derived.Test.YthlhbjnkohinmabGreatRows
import Derived.ProofKit
import Derived.OpenShut
import Derived.ShutString
import Derived.ChangeOld
import Derived.Below
import Derived.SizedLaws
import Derived.Deep.Slices
import Derived.Test.YthlhbjnkohinmabGreatP09
namespace Go.Proofs.YthlhbjnkohinmabGreat
set_option maxRecDepth 100000
set_option maxHeartbeats 8000000
open Go.RowKit
theorem fV (x:Int)(w:World):Calls Tryz.prog 13 #[.int .i64 x] w fun e w'=>e=.returned (.int .i64 x)∧w=w':=by
 go_enter Tryz.func13,Tryz.ntmps13
 go_wp2
 go_ret
 exact⟨rfl,rfl⟩
def mz (c n:Int):Int:=(if c<0 then -(c+1) else c) % n
theorem uW (c n:Int)(h:0<n):0≤mz c n∧mz c n<n:=⟨Int.emod_nonneg _ (by omega),Int.emod_lt_of_pos _ h⟩
theorem Cg (c:Int)(n:Nat)(w:World)(hc:-9223372036854775808≤c)(hc2:c≤9223372036854775807)(hn:0<n)(hn2:n≤9223372036854775807):
  Calls Tryz.prog 7 #[.int .i64 c,.int .i64 n] w fun e w'=>e=.returned (.int .i64 (mz c n))∧w'=w:=by
 by_cases h:c<0
 ·have e:mz c n=(-(c+1)) % (n:Int):=by simp[mz,h]
  rw[e];clear e
  go_enter Tryz.func7,Tryz.ntmps7
  go_wp2
  go_ret
  exact⟨j4 (by rw[←Int.neg_tmod,Int.tmod_eq_emod_of_nonneg (by omega)]),rfl⟩
 ·have e:mz c n=c % (n:Int):=by simp[mz,h]
  rw[e];clear e
  go_enter Tryz.func7,Tryz.ntmps7
  go_wp2
  go_ret
  exact⟨rfl,rfl⟩
theorem Tryz.info33:(Tryz.prog.info? 33).map (fun i=>(i.zero,i.size,i.bytes))=some (some (.pointer none),1,8):=by kernel_rfl
def D5 (w:World)(sb o:Nat)(k a b c:Int)(s:ByteArray):Prop:=
 w.cell? ⟨sb,o,none⟩=some (.int .i64 k)∧w.cell? ⟨sb,o+1,none⟩=some (.int .i64 a)∧w.cell? ⟨sb,o+2,none⟩=some (.int .i64 b)∧w.cell? ⟨sb,o+3,none⟩=some (.int .i64 c)∧w.cell? ⟨sb,o+4,none⟩=some (.string s)∧
 -9223372036854775808≤a∧a≤9223372036854775807∧s.size≤maxLen
open Go.ChangeShapes Go.WideShapes Go.ChangeAt Go.RowKit Go.Deep
theorem Tryz.own:ownKnob Tryz.prog.godebug=none:=by kernel_rfl
theorem Tryz.laidOut:laidOutB Tryz.prog=true:=by kernel_rfl
def qv (w:World)(a:Option Addr)(len:Nat):Prop:=len=0∨∃ sb off,a=some ⟨sb,off,none⟩∧sb<w.heap.size∧∀ t,t<len→∃ k a b c s,D5 w sb (off+t*5) k a b c s
theorem Tryz.bytes29:Tryz.prog.bytesOf 29=48:=by kernel_rfl
theorem Tryz.cells29:Tryz.prog.cellsOf 29=5:=by kernel_rfl
theorem Tryz.cells3:Tryz.prog.cellsOf 3=1:=by kernel_rfl
theorem Tryz.cells9:Tryz.prog.cellsOf 9=1:=by kernel_rfl
theorem Fw {α:Type}{l:List α}(h:l.length=5):∃ a b c d e,l=[a,b,c,d,e]:=by
 match l,h with
 |[a,b,c,d,e],_=>exact⟨a,b,c,d,e,rfl⟩
theorem uG {H:Type}{enc:TypeId×Value→H}{w:World}{base:Nat}{spare:Nat→Bool}{held:Bool}{fuel:Nat}{a:Option Addr}{len cap:Nat}{x:DataW H×List MemPlace}
  (h:DataW.trod enc Tryz.prog w base spare held fuel 22 [.slice a len cap]=some x) :
  qv w a len∧∃ elems sp,(x.1=.nil∧len=0)∨(x.1=.slice elems sp∧elems.length=len):=by
 rcases open_slice Tryz.underlying22 h with ⟨hcs,hx⟩|⟨ad,l,c,m,n,D,Pl,hcs,hb,hl,hm,hmm,hx,hel⟩
 ·simp at hcs
  obtain⟨rfl,rfl,rfl⟩:=hcs
  exact⟨.inl rfl,[],[],.inl ⟨by rw[hx],rfl⟩⟩
 ·simp at hcs
  obtain⟨rfl,rfl,rfl⟩:=hcs
  refine⟨?_,_,_,.inr ⟨by rw[hx],by simp⟩⟩
  by_cases h0:len=0
  ·exact .inl h0
  right
  have hlm:len≤m:=by rw[hmm];split <;> omega
  have each:∀ i,i<m→∃ k a b c s,w.cell? (ad.add (i*5))=some (.int .i64 k)∧w.cell? (ad.add (i*5+1))=some (.int .i64 a)∧w.cell? (ad.add (i*5+2))=some (.int .i64 b)∧w.cell? (ad.add (i*5+3))=some (.int .i64 c)∧w.cell? (ad.add (i*5+4))=some (.string s)∧(Lit.int .i64 a).wf=true∧s.size≤maxLen:=by
   intro i hi
   obtain⟨cs',h1,h2⟩:=hel i hi
   rw[Tryz.cells29] at h1
   obtain⟨_,hlen,hcell⟩:=World.cells?_some h1
   obtain⟨xs,k,hk,hxy,_,hxl,hf⟩:=DataW.trod_struct Tryz.underlying29 h2
   obtain⟨y0,y1,y2,y3,y4,rfl⟩:=Fw (show xs.length=5 from hxl)
   obtain⟨v0,v1,v2,v3,v4,rfl⟩:=Fw hlen
   have g0:=hf 0 _ rfl
   have g1:=hf 1 _ rfl
   have g2:=hf 2 _ rfl
   have g3:=hf 3 _ rfl
   have g4:=hf 4 _ rfl
   simp[Tryz.cells3,Tryz.cells9] at g0 g1 g2 g3 g4
   obtain⟨n0,q0,_,_⟩:=DataW.trod_int Tryz.underlying3 g0
   obtain⟨n1,q1,_,w1⟩:=DataW.trod_int Tryz.underlying3 g1
   obtain⟨n2,q2,_,_⟩:=DataW.trod_int Tryz.underlying3 g2
   obtain⟨n3,q3,_,_⟩:=DataW.trod_int Tryz.underlying3 g3
   obtain⟨s,q4,_,w4⟩:=DataW.trod_string Tryz.underlying9 g4
   simp at q0 q1 q2 q3 q4
   subst q0 q1 q2 q3 q4
   have e0:=hcell 0 (by omega)
   have e1:=hcell 1 (by omega)
   have e2:=hcell 2 (by omega)
   have e3:=hcell 3 (by omega)
   have e4:=hcell 4 (by omega)
   rw[add_add] at e0 e1 e2 e3 e4
   exact⟨n0,n1,n2,n3,s,by simpa using e0,by simpa using e1,by simpa using e2,by simpa using e3,by simpa using e4,w1,w4⟩
  obtain⟨b,off,spot⟩:=ad
  obtain⟨_,_,_,_,_,hc0,_⟩:=each 0 (by omega)
  have hspot:spot=none:=by simpa [Addr.add] using World.cell?_spot hc0
  subst hspot
  have hadd:∀ j,(⟨b,off,none⟩:Addr).add j=⟨b,off+j,none⟩:=by intro j;unfold Addr.add;split <;> simp_all
  refine⟨b,off,rfl,?_,?_⟩
  ·exact World.block_lt_of_cell? w _ hc0
  ·intro t ht
   obtain⟨k,a,b',c,s,e0,e1,e2,e3,e4,w1,w4⟩:=each t (by omega)
   rw[hadd] at e0 e1 e2 e3 e4
   have hbd:=bounds_i64 w1
   exact⟨k,a,b',c,s,e0,e1,e2,e3,e4,hbd.1,hbd.2,w4⟩
theorem Cw {H:Type}(d:DataW H):1≤Rows.uptoBulk d:=by
 cases d with
 |lit l=>cases l <;> simp[Rows.uptoBulk]
 |nil=>simp[Rows.uptoBulk]
 |ptr d=>simp[Rows.uptoBulk]
 |slice elems spare=>simp[Rows.uptoBulk]
 |agg parts=>simp[Rows.uptoBulk]
 |iface t d=>simp[Rows.uptoBulk]
 |map entries=>simp[Rows.uptoBulk]
 |held h=>simp[Rows.uptoBulk]
theorem DD {H:Type}(l:List (DataW H)):l.length≤Rows.uptoBulkAll l:=by
 induction l with
 |nil=>simp[Rows.uptoBulkAll]
 |cons x r ih=>
  have:=Cw x
  simp only[Rows.uptoBulkAll,List.length_cons]
  omega
theorem xR {H:Type}{elems spare:List (DataW H)}(hk:Rows.uptoSmall H ([.slice elems spare]++[])=true):elems.length≤1048576:=by
 have h:Rows.uptoBulkAll [DataW.slice elems spare]≤1048576:=of_decide_eq_true hk
 have h1:=DD elems
 simp only[Rows.uptoBulkAll,Rows.uptoBulk] at h
 omega
open Go.RowKit
def iD (Φ:World→Prop):eM:=fun w f=>(∀ b∈f,b<w.heap.size)∧∀ w':World,(∀ b∈f,w'.heap[b]?=w.heap[b]?)→Φ w'
theorem iD.framed (Φ:World→Prop):bV (iD Φ):=by
 rintro S w w' f ⟨h1,h2⟩ hf hs
 refine⟨fun b hb=>Nat.lt_of_lt_of_le (h1 b hb) hf.size,fun w2 h=>h2 w2 (fun b hb=>(h b hb).trans (hf.block b (h1 b hb) (hs b hb)))⟩
theorem iD.within (Φ:World→Prop):bW (iD Φ):=fun h g hg=>h.1 g hg
theorem iD.now {Φ:World→Prop}{w:World}{f:List Nat}(h:iD Φ w f):Φ w:=h.2 w (fun _ _=>rfl)
theorem iM {w w':World}{B:Nat}{e:TypeId}{size:Nat}{v:Value}{n:Nat}{xs:List Value}(h:w.ownsRow B e size v n xs)
  (hk:∀ g cs,B≤g→w.heap[g]?=some (.cells cs e (0,0))→w'.heap[g]?=w.heap[g]?):w'.ownsRow 0 e size v n xs:=by
 obtain⟨h1,h2⟩:=h
 refine⟨h1,?_⟩
 rcases h2 with h2|⟨g,cap,cur,rfl,hb,hh,h3⟩
 ·exact .inl h2
 ·exact .inr ⟨g,cap,cur,rfl,Nat.zero_le _,(hk g _ hb hh).trans hh,h3⟩
def pg (B:Nat)(t1 t2:TypeId)(w w':World):Prop:=∀ g cs t,B≤g→w.heap[g]?=some (.cells cs t (0,0))→t≠t1→t≠t2→w'.heap[g]?=w.heap[g]?
theorem oB {w w':World}{B:Nat}{s:ByteArray}(hk:pg B 94 45 w w'):∀ (R:List ay) (xs:List Value),jH w B s R xs→jH w' 0 s R xs
 |[],_,h=>h
 |r::R,xs,h=>by
  obtain⟨a1,m1,c1,a2,m2,c2,ys,rfl,k1,k2,k3⟩:=h
  exact⟨a1,m1,c1,a2,m2,c2,ys,rfl,iM k1 (fun g cs h1 h2=>hk g cs _ h1 h2 (by decide) (by decide)),iM k2 (fun g cs h1 h2=>hk g cs _ h1 h2 (by decide) (by decide)),oB hk R ys k3⟩
theorem mB {w w':World}{B:Nat}{s:ByteArray}(hk:pg B 94 45 w w'):∀ (R:List ay) (xs:List Value),fY w B s R xs→fY w' 0 s R xs
 |[],_,h=>h
 |r::R,xs,h=>by
  obtain⟨a1,m1,c1,a2,m2,c2,ys,rfl,k1,k2,k3⟩:=h
  exact⟨a1,m1,c1,a2,m2,c2,ys,rfl,iM k1 (fun g cs h1 h2=>hk g cs _ h1 h2 (by decide) (by decide)),iM k2 (fun g cs h1 h2=>hk g cs _ h1 h2 (by decide) (by decide)),mB hk R ys k3⟩
theorem pA {w w':World}{B:Nat}{s:ByteArray}{v:Value}{R:List ay}(h:bS w B s v R)(hk:pg B 94 45 w w'):bS w' 0 s v R:=by
 obtain⟨xs,h1,h2⟩:=h
 exact⟨xs,iM h1 (fun g cs a b=>hk g cs _ a b (by decide) (by decide)),oB hk R xs h2⟩
theorem tf {w w':World}{B:Nat}{s:ByteArray}{v:Value}{R:List ay}(h:jw w B s v R)(hk:pg B 94 45 w w'):jw w' 0 s v R:=by
 obtain⟨xs,h1,h2⟩:=h
 exact⟨xs,iM h1 (fun g cs a b=>hk g cs _ a b (by decide) (by decide)),mB hk R xs h2⟩
def kp (w:World)(B x y:Nat):List Nat:=(List.range w.heap.size).filter fun g=>decide (B≤g)&&decide (g≠x)&&decide (g≠y)
theorem gU {w:World}{B x y g:Nat}:g∈kp w B x y↔g<w.heap.size∧B≤g∧g≠x∧g≠y:=by
 simp[kp,and_assoc]
theorem mJ (w:World)(B x y:Nat):(kp w B x y).Nodup:=List.nodup_range.sublist List.filter_sublist
end Go.Proofs.YthlhbjnkohinmabGreat
