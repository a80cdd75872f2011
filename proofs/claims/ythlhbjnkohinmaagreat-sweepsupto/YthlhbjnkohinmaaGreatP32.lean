import Derived.Test.YthlhbjnkohinmaaGreatP31
import Derived.Test.YthlhbjnkohinmaaGreatP14
import Derived.Test.YthlhbjnkohinmaaGreatP24
namespace Go.Proofs.YthlhbjnkohinmaaGreat
set_option maxRecDepth 100000
set_option maxHeartbeats 8000000
open Go.RowKit
def ey (i:In):Value:=.agg #[.int .i64 i.rule,.int .i64 (eI i.env 0),.int .i64 (eI i.env 1),.int .i64 (eI i.env 2),.int .i64 (eI i.env 3),.string (bA i.facts)]
def fQ (i:In):ByteArray:=strOfNums [48+(i.rule:Int)]++bA i.facts
theorem oM (i:In)(w:World)(hr:i.rule≤9)(hf:i.facts.length≤100):
  Calls Tryz.prog 64 #[ey i] w fun e w'=>e=.returned (.string (fQ i))∧w.grownBy w' none:=by
 have hz:(bA i.facts).size≤300:=by rw[fA];omega
 unfold ey fQ
 obtain⟨ru,hru⟩:∃ ru:Int,ru=i.rule:=⟨_,rfl⟩
 obtain⟨ft,hft⟩:∃ ft,ft=bA i.facts:=⟨_,rfl⟩
 rw[←hft] at hz ⊢
 have h0:0≤ru:=by omega
 have h9:ru≤9:=by omega
 rw[←hru]
 generalize eI i.env 0=e0
 generalize eI i.env 1=e1
 generalize eI i.env 2=e2
 generalize eI i.env 3=e3
 clear hru hft hr hf
 have h1:(48:Int)+ru≤255:=by omega
 have hcv:=run_convert_bytes_arg (P:=Tryz.prog) ((w.alloc (.cells #[.int .i64 ru,.int .i64 e0,.int .i64 e1,.int .i64 e2,.int .i64 e3,.string ft] 136)).alloc (.cells #[.int .u8 (48+ru)] 5)) 160 5 Tryz.underlying160 Tryz.underlying5 (w.heap.size+1) 0 1 1 [48+ru] rfl (by
  intro i hi
  rw[World.cell?_alloc_at _ _ _ _ (by simp)]
  match i,hi with
  |0,_=>rfl) 9 Tryz.underlying9
 have hs1:(strOfNums [48+ru]).size=1:=rfl
 obtain⟨nt,hnt⟩:∃ nt,nt=strOfNums [48+ru]:=⟨_,rfl⟩
 rw[←hnt] at hcv hs1 ⊢
 clear hnt
 go_enter Tryz.func64,Tryz.ntmps64
 go_wp2
 go_ret
 exact⟨rfl,ab (ab (ag _ _) _) _⟩
theorem we (l:List ByteArray):∀ z:ByteArray,(l.foldl (·++·) z).data.toList=z.data.toList++l.flatMap fun x=>x.data.toList:=by
 induction l with
 |nil=>intro z;simp
 |cons x l ih=>intro z;rw[List.foldl_cons,ih];simp[ByteArray.data_append]
theorem jk (l:List aw):(bA l).data.toList=l.flatMap fun q=>(cq q.1 q.2.1).data.toList:=by
 unfold bA ce
 rw[we]
 simp[List.flatMap_map]
theorem pW {α β:Type}{f:α→List β}{m:Nat}(hf:∀ a,(f a).length=m):∀ (l:List α) (j:Nat),(l.flatMap f).drop (j*m)=(l.drop j).flatMap f
 |l,0=>by simp
 |[],j+1=>by simp
 |a::l,j+1=>by
  rw[List.flatMap_cons,List.drop_succ_cons,←pW hf l j,Nat.add_mul,Nat.one_mul,Nat.add_comm,←List.drop_drop,List.drop_left' (hf a)]
theorem oq (l:List aw)(j:Nat)(hj:j<l.length):(bA l).extract (j*3) (j*3+2)=ax l[j].1:=by
 apply ByteArray.ext
 apply Array.toList_inj.mp
 rw[ByteArray.data_extract,Array.toList_extract,jk,List.extract_eq_take_drop]
 rw[pW (m:=3) (fun _=>rfl),List.drop_eq_getElem_cons hj,List.flatMap_cons]
 simp only[Nat.add_sub_cancel_left]
 rw[List.take_append_of_le_length (by show 2≤3;omega)]
 rfl
def gT (com:List (List Wr))(S:br)(l:List aw):Int:=l.foldl (fun n q=>if (dq com S (ax q.1)).2>n then (dq com S (ax q.1)).2 else n) (-(com.length:Int) - 2)
theorem An (com:List (List Wr))(S:br)(l:List aw)(j:Nat)(hj:j<l.length):gT com S (l.take (j+1))=if (dq com S (ax l[j].1)).2>gT com S (l.take j) then (dq com S (ax l[j].1)).2 else gT com S (l.take j):=by
 unfold gT
 rw[List.take_succ_eq_append_getElem hj,List.foldl_append]
 rfl
structure oB (com:List (List Wr))(S:br):Prop where
 snap:0≤S.snap
 snapLe:S.snap≤com.length
 comLen:com.length≤9223372036854775000
 each:∀ l∈com,l.length≤9223372036854775807
 wrLen:S.wr.length≤9223372036854775806
theorem pM (y:Nat)(com:List (List Wr))(S:br)(p:Value)(a:Option Addr)(cp:Nat)(cs:List Value)(fc fp:List Nat)(i:In)(w:World)
  (hE:io y com S p a cp cs fc fp w) (hk:oB com S) (hf:i.facts.length≤100) :
  Calls Tryz.prog 116 #[.pointer (some ⟨y,0,none⟩),p,ey i] w fun e w'=>e=.returned (.int .i64 (gT com S i.facts))∧w.grownBy w' none:=by
 have hcl:=hk.comLen
 have HSEE:Hid (∀ (c:ByteArray) (W:World),io y com S p a cp cs fc fp W→Calls Tryz.prog 85 #[.pointer (some ⟨y,0,none⟩),p,.string c] W fun e w'=>e=.returned (.tuple #[.int .i64 (dq com S c).1,.int .i64 (dq com S c).2])∧∃ n,w'=W.drewN n):=
  af (fun c W h=>vw y com cs fc S p fp c a _ cp W h.cell h.row h.com h.ses hk.snap hk.snapLe (by omega) hk.each hk.wrLen)
 have HE:=af hE
 have c2:=hE.cell
 have hyl:=World.block_lt_of_cell? w _ c2
 have hyz:y≠w.heap.size:=by simp at hyl;omega
 have hyl2:y<w.heap.size:=by simpa using hyl
 have HSZ:=af (fA i.facts)
 have HCE:=af (oq i.facts)
 have HLS:=af (An com S i.facts)
 obtain⟨G,hG⟩:∃ G,G=i.facts:=⟨_,rfl⟩
 obtain⟨r,hr⟩:∃ r,r=gT com S i.facts:=⟨_,rfl⟩
 rw[←hr]
 unfold ey
 rw[←hG] at hf hr HSZ HCE HLS ⊢
 have HR:=af hr
 obtain⟨ft,hft⟩:∃ ft,ft=bA G:=⟨_,rfl⟩
 rw[←hft] at HSZ HCE ⊢
 have hsz:=HSZ.out
 obtain⟨ru,hru⟩:∃ ru:Int,ru=i.rule:=⟨_,rfl⟩
 rw[←hru]
 generalize eI i.env 0=e0
 generalize eI i.env 1=e1
 generalize eI i.env 2=e2
 generalize eI i.env 3=e3
 clear hE hk hG hr hft hru hyl
 go_enter Tryz.func116,Tryz.ntmps116
 go_wp2_with fail
 have HWA:Hid (w.grownBy (w.alloc (.cells #[.int .i64 ru,.int .i64 e0,.int .i64 e1,.int .i64 e2,.int .i64 e3,.string ft] 136)) none):=af (ab (ag _ _) _)
 have HWB:Hid ((w.alloc (.cells #[.int .i64 ru,.int .i64 e0,.int .i64 e1,.int .i64 e2,.int .i64 e3,.string ft] 136)).cell? ⟨w.heap.size,5,none⟩=some (.string ft)):=af (eu rfl)
 generalize w.alloc (.cells #[.int .i64 ru,.int .i64 e0,.int .i64 e1,.int .i64 e2,.int .i64 e3,.string ft] 136)=WA at HWA HWB ⊢
 generalize w.heap.size=b at HWB ⊢
 go_loopw [7,8] (fun v t wr=>∃ j:Nat,j≤G.length∧t=.int .i64 ((j:Int)*3)∧v=.int .i64 (gT com S (G.take j))∧WA.grownBy wr none) (fun _ t _=>G.length*3 - (intOf t).toNat)
 case atStart=>exact⟨0,by omega,rfl,rfl,ag _ _⟩
 case round=>
  obtain⟨j,hj,rfl,rfl,hg⟩:=hrel
  have HG:=af hg
  have d5:=am hg HWB.out
  by_cases hlt:j<G.length
  ·have HC:=af (HSEE.out (ax G[j].1) wr ((HE.out.kept HWA.out).kept hg))
   have HX:=af (HCE.out j hlt)
   have HL:=af (HLS.out j hlt)
   obtain⟨ct,hct⟩:∃ ct,ct=ax G[j].1:=⟨_,rfl⟩
   rw[←hct] at HC HX HL
   obtain⟨v0,hv0⟩:∃ v0,v0=(dq com S ct).1:=⟨_,rfl⟩
   obtain⟨t0,ht0⟩:∃ t0,t0=(dq com S ct).2:=⟨_,rfl⟩
   rw[←hv0,←ht0] at HC
   rw[←ht0] at HL
   obtain⟨n0,hn0⟩:∃ n0,n0=gT com S (G.take j):=⟨_,rfl⟩
   rw[←hn0] at HL ⊢
   have hx:ft.extract (j*3) (j*3+2)=ct:=HX.out
   have b1:(j:Int)*3+2<ft.size:=by omega
   have b2:(0:Int)≤(j:Int)*3:=by omega
   clear hct hv0 ht0 hn0 hg
   go_wp2_with fail
   go_at_call 85
   refine HC.out.mono ?_
   rintro er w1 ⟨rfl,m,rfl⟩
   have ej:((j:Int)*3+3)=((j+1:Nat):Int)*3:=by omega
   have HEJ:=af ej
   clear ej
   by_cases hgt:t0>n0
   ·have HL2:Hid (gT com S (G.take (j+1))=t0):=af (by rw[HL.out,if_pos hgt])
    go_wp2_with fail
    go_roundw
    case rel=>exact⟨j+1,by omega,by rw[←HEJ.out],by rw[HL2.out],al HG.out m⟩
    case measure=>simp[intOf];omega
   ·have HL2:Hid (gT com S (G.take (j+1))=n0):=af (by rw[HL.out,if_neg hgt])
    go_wp2_with fail
    go_roundw
    case rel=>exact⟨j+1,by omega,by rw[←HEJ.out],by rw[HL2.out],al HG.out m⟩
    case measure=>simp[intOf];omega
  ·have e:j=G.length:=by omega
   subst e
   have HRR:Hid (gT com S (G.take G.length)=r):=af (by rw[List.take_length,HR.out])
   obtain⟨n0,hn0⟩:∃ n0,n0=gT com S (G.take G.length):=⟨_,rfl⟩
   rw[←hn0] at HRR ⊢
   clear hn0 hg
   go_wp2_with fail
   go_ret
   exact⟨by rw[←HRR.out];rfl,ae HWA.out HG.out⟩
def eh (s:ByteArray)(R:List ay)(r:Nat):Int:=bt s (R.getD r (0,[],[])).1 - 48
structure lL (y:Nat)(s:ByteArray)(R:List ay)(ra:Option Addr)(rc:Nat)(xs:List Value)(w:World):Prop where
 cell:w.cell? ⟨y,0,none⟩=some (.slice ra R.length rc)
 row:w.ownsRow 0 155 3 (.slice ra R.length rc) R.length xs
 parts:gh w 0 s R xs
theorem lL.kept {y:Nat}{s:ByteArray}{R:List ay}{ra:Option Addr}{rc:Nat}{xs:List Value}{w w':World}(h:lL y s R ra rc xs w)(hg:w.grownBy w' none):lL y s R ra rc xs w':=
 ⟨am hg h.cell,aq h.row hg (fun g hg=>by cases hg),qO h.parts hg⟩
theorem lL.weight {y:Nat}{s:ByteArray}{R:List ay}{ra:Option Addr}{rc:Nat}{xs:List Value}{w:World}(h:lL y s R ra rc xs w){k:Nat}(hk:k<R.length):∃ g,ra=some ⟨g,0,none⟩∧g<w.heap.size∧w.cell? ⟨g,k*3,none⟩=some (.int .i64 (eh s R k)):=by
 obtain⟨a1,m1,c1,a2,m2,c2,x0,_⟩:=iL R xs h.parts k hk
 obtain⟨g,e,_,_,hl,hcell⟩:=aC h.row (by omega)
 refine⟨g,e,hl,?_⟩
 rw[hcell _ _ x0]
 simp[eh,List.getD,List.getElem?_eq_getElem hk]
def DX (a b:ByteArray):Bool:=Op.bytesLess a.toList b.toList
def j6 (ui uj ti tj:Int)(ri rj:Nat)(lt:Bool):Bool:=if ui≠uj then decide (ui>uj) else if ti≠tj then decide (ti>tj) else if ri≠rj then decide (ri<rj) else lt
theorem zk (y:Nat)(com:List (List Wr))(S:br)(p:Value)(a:Option Addr)(cp:Nat)(cs:List Value)(fc fp:List Nat)(s:ByteArray)(R:List ay)(ra:Option Addr)(rc:Nat)(xs:List Value)(i j:In)(w:World)
  (hE:io y com S p a cp cs fc fp w) (hA:lL y s R ra rc xs w) (hk:oB com S) (hfi:i.facts.length≤100) (hfj:j.facts.length≤100) (hi:i.rule<R.length) (hj:j.rule<R.length) :
  Calls Tryz.prog 93 #[.pointer (some ⟨y,0,none⟩),p,ey i,ey j] w fun e w'=>e=.returned (.bool (j6 (eh s R i.rule) (eh s R j.rule) (gT com S i.facts) (gT com S j.facts) i.rule j.rule (DX (bA i.facts) (bA j.facts))))∧w.grownBy w' none:=by
 have HLI:Hid (∀ W,w.grownBy W none→Calls Tryz.prog 116 #[.pointer (some ⟨y,0,none⟩),p,ey i] W fun e w'=>e=.returned (.int .i64 (gT com S i.facts))∧W.grownBy w' none):=af (fun W hW=>pM y com S p a cp cs fc fp i W (hE.kept hW) hk hfi)
 have HLJ:Hid (∀ W,w.grownBy W none→Calls Tryz.prog 116 #[.pointer (some ⟨y,0,none⟩),p,ey j] W fun e w'=>e=.returned (.int .i64 (gT com S j.facts))∧W.grownBy w' none):=af (fun W hW=>pM y com S p a cp cs fc fp j W (hE.kept hW) hk hfj)
 obtain⟨gr,rfl,hgr,q1⟩:=hA.weight hi
 obtain⟨gr2,e2,_,q2⟩:=hA.weight hj
 simp only[Option.some.injEq,Addr.mk.injEq,and_true] at e2
 subst e2
 have c0:=hA.cell
 have hyl:=World.block_lt_of_cell? w _ c0
 have hyl2:y<w.heap.size:=by simpa using hyl
 have y1:y≠w.heap.size:=by omega
 have y2:y≠w.heap.size+1:=by omega
 have g1:gr≠w.heap.size:=by omega
 have g2:gr≠w.heap.size+1:=by omega
 have y3:y<w.heap.size+1:=by omega
 have g3:gr<w.heap.size+1:=by omega
 unfold ey at HLI HLJ ⊢
 obtain⟨ui,hui⟩:∃ ui,ui=eh s R i.rule:=⟨_,rfl⟩
 obtain⟨uj,huj⟩:∃ uj,uj=eh s R j.rule:=⟨_,rfl⟩
 obtain⟨ti,hti⟩:∃ ti,ti=gT com S i.facts:=⟨_,rfl⟩
 obtain⟨tj,htj⟩:∃ tj,tj=gT com S j.facts:=⟨_,rfl⟩
 rw[←hui,←huj,←hti,←htj]
 rw[←hui] at q1
 rw[←huj] at q2
 rw[←hti] at HLI
 rw[←htj] at HLJ
 obtain⟨fi,hfi2⟩:∃ fi,fi=bA i.facts:=⟨_,rfl⟩
 obtain⟨fj,hfj2⟩:∃ fj,fj=bA j.facts:=⟨_,rfl⟩
 rw[←hfi2] at HLI ⊢
 rw[←hfj2] at HLJ ⊢
 obtain⟨ri,hri⟩:∃ ri,ri=i.rule:=⟨_,rfl⟩
 obtain⟨rj,hrj⟩:∃ rj,rj=j.rule:=⟨_,rfl⟩
 rw[←hri] at HLI q1 hi ⊢
 rw[←hrj] at HLJ q2 hj ⊢
 generalize eI i.env 0=e0 at HLI ⊢
 generalize eI i.env 1=e1 at HLI ⊢
 generalize eI i.env 2=e2 at HLI ⊢
 generalize eI i.env 3=e3 at HLI ⊢
 generalize eI j.env 0=d0 at HLJ ⊢
 generalize eI j.env 1=d1 at HLJ ⊢
 generalize eI j.env 2=d2 at HLJ ⊢
 generalize eI j.env 3=d3 at HLJ ⊢
 obtain⟨r,hr⟩:∃ r,r=j6 ui uj ti tj ri rj (DX fi fj):=⟨_,rfl⟩
 rw[←hr]
 have HR:=af hr
 clear hr
 clear hE hA hk hfi hfj hyl hui huj hti htj hfi2 hfj2 hri hrj
 have i1:(0:Int)≤(ri:Int):=by omega
 have i2:(ri:Int)<R.length:=by omega
 have j1:(0:Int)≤(rj:Int):=by omega
 have j2:(rj:Int)<R.length:=by omega
 go_enter Tryz.func93,Tryz.ntmps93
 go_wp2_with fail
 go_quiet ((fail))
 go_wp2_with fail
 go_quiet ((fail))
 generalize hW0:World.drewN _ _=W0
 have HW0:Hid (w.grownBy W0 none∧W0.heap[w.heap.size]?=some (.cells #[.int .i64 ri,.int .i64 e0,.int .i64 e1,.int .i64 e2,.int .i64 e3,.string fi] 136 (0,0))∧W0.heap[w.heap.size+1]?=some (.cells #[.int .i64 rj,.int .i64 d0,.int .i64 d1,.int .i64 d2,.int .i64 d3,.string fj] 136 (0,0))):=af (by
  rw[←hW0]
  exact⟨al (al (ab (ab (ag _ _) _) _) _) _,(Below.heap_alloc _ _ _ (by simp)).trans (heap_alloc_new w _),gG (by simp)⟩)
 clear hW0 c0 q1 q2
 have HCI:Hid (∀ W,W0.grownBy W none→W.cell? ⟨w.heap.size,0,none⟩=some (.int .i64 ri)∧W.cell? ⟨w.heap.size,1,none⟩=some (.int .i64 e0)∧W.cell? ⟨w.heap.size,2,none⟩=some (.int .i64 e1)∧W.cell? ⟨w.heap.size,3,none⟩=some (.int .i64 e2)∧W.cell? ⟨w.heap.size,4,none⟩=some (.int .i64 e3)∧W.cell? ⟨w.heap.size,5,none⟩=some (.string fi)):=af (fun W hW=>by
  have hb:=(hW.block _ (lt_of_block HW0.out.2.1) (by simp)).trans HW0.out.2.1
  refine⟨?_,?_,?_,?_,?_,?_⟩ <;> (rw[cell_of_row _ _ _ _ _ _ hb];rfl))
 have HCJ:Hid (∀ W,W0.grownBy W none→W.cell? ⟨w.heap.size+1,0,none⟩=some (.int .i64 rj)∧W.cell? ⟨w.heap.size+1,1,none⟩=some (.int .i64 d0)∧W.cell? ⟨w.heap.size+1,2,none⟩=some (.int .i64 d1)∧W.cell? ⟨w.heap.size+1,3,none⟩=some (.int .i64 d2)∧W.cell? ⟨w.heap.size+1,4,none⟩=some (.int .i64 d3)∧W.cell? ⟨w.heap.size+1,5,none⟩=some (.string fj)):=af (fun W hW=>by
  have hb:=(hW.block _ (lt_of_block HW0.out.2.2) (by simp)).trans HW0.out.2.2
  refine⟨?_,?_,?_,?_,?_,?_⟩ <;> (rw[cell_of_row _ _ _ _ _ _ hb];rfl))
 have HG0:=af HW0.out.1
 clear HW0
 generalize w.heap.size=b at*
 by_cases hw:ui=uj
 ·have qw:(ui != uj)=false:=by simpa using hw
  have HRW:Hid (r=if ti≠tj then decide (ti>tj) else if ri≠rj then decide (ri<rj) else DX fi fj):=af (by rw[HR.out];unfold j6;rw[if_neg (by simpa using hw)])
  obtain⟨k0,k1,k2,k3,k4,k5⟩:=HCI.out W0 (ag _ _)
  clear hw
  go_wp2_with fail
  go_at_call 116
  refine (HLI.out _ HG0.out).mono ?_
  rintro er w1 ⟨rfl,hg1⟩
  obtain⟨m0,m1,m2,m3,m4,m5⟩:=HCJ.out w1 hg1
  have HG1:=af hg1
  clear hg1 k0 k1 k2 k3 k4 k5
  go_wp2_with fail
  go_at_call 116
  refine (HLJ.out _ (ae HG0.out HG1.out)).mono ?_
  rintro er w2 ⟨rfl,hg2⟩
  have HG2:=af (ae HG1.out hg2)
  obtain⟨k0,_,_,_,_,k5⟩:=HCI.out w2 HG2.out
  obtain⟨p0,_,_,_,_,p5⟩:=HCJ.out w2 HG2.out
  clear hg2 m0 m1 m2 m3 m4 m5
  by_cases ht:ti=tj
  ·have qt:(ti != tj)=false:=by simpa using ht
   by_cases hr:(ri:Int)=rj
   ·have qr:((ri:Int) != (rj:Int))=false:=by simpa using hr
    have HRR:Hid (r=DX fi fj):=af (by rw[HRW.out,if_neg (by simpa using ht),if_neg (by omega)])
    clear ht hr
    go_wp2_with fail
    go_ret
    exact⟨by rw[HRR.out];rfl,ae HG0.out HG2.out⟩
   ·have qr:((ri:Int) != (rj:Int))=true:=by simpa using hr
    have HRR:Hid (r=decide (ri<rj)):=af (by rw[HRW.out,if_neg (by simpa using ht),if_pos (by omega)])
    clear ht hr
    go_wp2_with fail
    go_ret
    exact⟨by rw[HRR.out];rfl,ae HG0.out HG2.out⟩
  ·have qt:(ti != tj)=true:=by simpa using ht
   have HRR:Hid (r=decide (ti>tj)):=af (by rw[HRW.out,if_pos (by simpa using ht)])
   clear ht
   go_wp2_with fail
   go_ret
   exact⟨by rw[HRR.out];rfl,ae HG0.out HG2.out⟩
 ·have qw:(ui != uj)=true:=by simpa using hw
  have HRR:Hid (r=decide (ui>uj)):=af (by rw[HR.out];unfold j6;rw[if_pos (by simpa using hw)])
  clear hw
  go_wp2_with fail
  go_ret
  exact⟨by rw[HRR.out];rfl,HG0.out⟩
theorem CG (l:List Wr)(c:ByteArray):-1≤eM l c∧eM l c<l.length:=by
 unfold eM
 cases h:bc c l with
 |none=>simp only[];omega
 |some k=>have:=fP h;simp only[];omega
theorem fT {w:World}{base:Nat}{e:TypeId}{size g n cap j:Nat}{xs:List Value}(h:w.ownsRow base e size (.slice (some ⟨g,0,none⟩) n cap) n xs)(u:Value):(w.setCell ⟨g,j,none⟩ u).ownsRow base e size (.slice (some ⟨g,0,none⟩) n cap) n (xs.set j u):=by
 obtain⟨h1,h2⟩:=h
 refine⟨by simpa using h1,?_⟩
 rcases h2 with ⟨e,_⟩|⟨g',cap',cur,e,hb,hh,h3,h4,h5,h6⟩
 ·simp at e
 ·simp only[Value.slice.injEq,Option.some.injEq,Addr.mk.injEq,and_true,true_and] at e
  obtain⟨rfl,rfl⟩:=e
  exact .inr ⟨g,cap,cur.setIfInBounds j u,rfl,hb,ah hh j u,h3,h4,by simpa using h5,by rw[←h6];simp[List.take_set]⟩
theorem eT {w:World}{base:Nat}{e:TypeId}{size g n cap:Nat}{xs:List Value}(h:w.ownsRow base e size (.slice (some ⟨g,0,none⟩) n cap) n xs)(j:Nat):w.frozen? ⟨g,j,none⟩=false:=by
 obtain⟨cs,hcs⟩:=fw h g rfl
 exact ai hcs j
theorem BZ {L R:List Value}{m i:Nat}(hL:L.length=m)(v:Value):(L++R).set (m+i) v=L++R.set i v:=by
 subst hL
 simp
def pa (xs:List Value)(m:Nat)(a b:In):List Value:=
 (((((((((((xs.set ((m+1)*6) (.int .i64 a.rule)).set ((m+1)*6+1) (.int .i64 (eI a.env 0))).set ((m+1)*6+2) (.int .i64 (eI a.env 1))).set ((m+1)*6+3) (.int .i64 (eI a.env 2))).set ((m+1)*6+4) (.int .i64 (eI a.env 3))).set ((m+1)*6+5) (.string (bA a.facts))).set (m*6) (.int .i64 b.rule)).set (m*6+1) (.int .i64 (eI b.env 0))).set (m*6+2) (.int .i64 (eI b.env 1))).set (m*6+3) (.int .i64 (eI b.env 2))).set (m*6+4) (.int .i64 (eI b.env 3))).set (m*6+5) (.string (bA b.facts))
theorem wQ (A B:List In)(a b:In)(m:Nat)(hA:A.length=m):pa (aI (A++a::b::B)) m a b=aI (A++b::a::B):=by
 have hl:(aI A).length=m*6:=by rw[qu,hA]
 have e1:aI (A++a::b::B)=aI A++aI (a::b::B):=mf _ _
 have e2:aI (A++b::a::B)=aI A++aI (b::a::B):=mf _ _
 have s0:=fun (R:List Value) (v:Value)=>BZ (R:=R) (i:=0) hl v
 simp only[Nat.add_zero] at s0
 have q0:(m+1)*6=m*6+6:=by omega
 have q1:(m+1)*6+1=m*6+7:=by omega
 have q2:(m+1)*6+2=m*6+8:=by omega
 have q3:(m+1)*6+3=m*6+9:=by omega
 have q4:(m+1)*6+4=m*6+10:=by omega
 have q5:(m+1)*6+5=m*6+11:=by omega
 unfold pa
 rw[e1,e2,q5,q4,q3,q2,q1,q0]
 simp only[BZ hl,s0]
 rfl
theorem Ez {O:List In}{x:In}{k:Nat}(hk:k≤O.length):(O.take k++x::O.drop k).length=O.length+1∧∃ h:k<(O.take k++x::O.drop k).length,(O.take k++x::O.drop k)[k]=x:=by
 have h1:(O.take k).length=k:=by simp;omega
 have h2:(O.take k++x::O.drop k).length=O.length+1:=by
  rw[List.length_append,List.length_cons,h1,List.length_drop];omega
 refine⟨h2,by omega,?_⟩
 rw[List.getElem_append_right (by omega)]
 simp[h1]
theorem CC {O:List In}{x:In}{m:Nat}(hm:m<O.length):∃ h:m<(O.take (m+1)++x::O.drop (m+1)).length,(O.take (m+1)++x::O.drop (m+1))[m]=O[m]:=by
 have h1:(O.take (m+1)).length=m+1:=by simp;omega
 refine⟨by simp;omega,?_⟩
 rw[List.getElem_append_left (by omega)]
 simp
theorem Cr {O:List In}{x:In}{m:Nat}(hm:m<O.length):O.take (m+1)++x::O.drop (m+1)=O.take m++O[m]::x::O.drop (m+1)∧O.take m++x::O.drop m=O.take m++x::O[m]::O.drop (m+1):=by
 constructor
 ·rw[List.take_succ_eq_append_getElem hm,List.append_assoc];rfl
 ·rw[List.drop_eq_getElem_cons hm]
def rT (i:In):ByteArray:=fQ i++⟨#[59]⟩
def ep (l:List In):ByteArray:=ce (l.map rT)
theorem p8 (l:List In)(j:Nat)(hj:j<l.length):ep (l.take (j+1))=ep (l.take j)++fQ l[j]++⟨#[59]⟩:=by
 unfold ep
 rw[List.take_succ_eq_append_getElem hj,List.map_append]
 show ce (_++[rT l[j]])=_
 rw[gZ,ByteArray.append_assoc]
 rfl
theorem pj {i:In}(h:i.facts.length≤100):(fQ i).size≤301:=by
 unfold fQ
 rw[ByteArray.size_append,fA]
 have:(strOfNums [48+(i.rule:Int)]).size=1:=rfl
 omega
theorem mq:∀ (l:List In) ,(∀ i∈l,i.facts.length≤100)→(ep l).size≤302*l.length:=by
 intro l
 have key:∀ (l:List In) (z:ByteArray),(∀ i∈l,i.facts.length≤100)→((l.map rT).foldl (·++·) z).size≤z.size+302*l.length:=by
  intro l
  induction l with
  |nil=>intro z _;simp
  |cons i l ih=>
   intro z h
   have h1:=ih (z++rT i) (fun j hj=>h j (by simp[hj]))
   have h2:=pj (h i (by simp))
   rw[List.map_cons,List.foldl_cons]
   have h3:(rT i).size=(fQ i).size+1:=by unfold rT;rw[ByteArray.size_append];rfl
   rw[ByteArray.size_append,h3] at h1
   simp only[List.length_cons]
   omega
 intro h
 have:=key l ByteArray.empty h
 unfold ep ce
 simpa using this
theorem qU (Q:Value→eW)(y:Nat)(E:bm)(f:List Nat)(n:Int)(S:br)(M:List In)(w:World)(hE:bJ Q y E w f)(hW:kz E)(hf:du E.opn n=some S)(hM:∀ i∈M,i.facts.length≤100∧i.rule≤9)(hMl:M.length≤10000000000)
  (HRE:Hid (∀ (p:Value) (a:Option Addr) (cp:Nat) (cs:List Value) (fc fp:List Nat),io y E.com S p a cp cs fc fp w→Calls Tryz.prog 63 #[.pointer (some ⟨y,0,none⟩),p] w fun e w'=>∃ v,e=.returned v∧w'.ownsRow w.heap.size 136 6 v M.length (aI M)∧w.grownBy w' none)) :
  Calls Tryz.prog 32 #[.pointer (some ⟨y,0,none⟩),.int .i64 n] w fun e w'=>e=.returned (.tuple #[.string (ep M),.int .i64 0])∧w.grownBy w' none:=by
 obtain⟨rv,cv,kv,ov,cs,ps,f1,f2,⟨hb,rfl⟩,⟨f3,f4,_,⟨f5,f6,⟨hcr,_⟩,⟨f7,f8,hcom,⟨f9,f10,_,⟨f11,f12,⟨hor,_⟩,hses,_⟩,_⟩,_⟩,_⟩,_⟩,_⟩:=hE
 obtain⟨ac,mc,cc,rfl⟩:=an hcr
 obtain⟨ao,mo,co,rfl⟩:=an hor
 have emc:=au hcr
 subst emc
 have d2:w.cell? ⟨y,2,none⟩=some (.slice ac E.com.length cc):=by simp[World.cell?,hb]
 have d4:w.cell? ⟨y,4,none⟩=some (.slice ao mo co):=by simp[World.cell?,hb]
 have HF:=af (dR y E.opn ps f12 n ao mo co w d4 hor hses (by have:=hW.opnLen;omega))
 have HSES:=af hses
 have HCOM:=af hcom
 have HFS:=af hf
 have HM:=af hM
 have HTS:=af (fun j=>mq (M.take j) (fun i hi=>(hM i (List.mem_of_mem_take hi)).1))
 clear hb hses hcom d4 hor hf hM
 go_enter Tryz.func32,Tryz.ntmps32
 go_wp2_with fail
 go_at_call 44
 refine HF.out.mono ?_
 rintro e w' ⟨⟨u,rfl,hans⟩,rfl⟩
 rcases hans with ⟨k,h1,h2,hn1,hn2,rfl⟩|⟨hn,rfl⟩
 ·have eS:E.opn[k]=S:=by
   have:=HFS.out
   rw[fX h1 hn1 hn2] at this
   simpa using this
  obtain⟨fp,hse,_⟩:=aB.get HSES.out k h2 h1
  rw[eS] at hse
  have HC:=af (HRE.out ps[k] ac cc cs f7 fp ⟨d2,hcr,HCOM.out,hse⟩)
  obtain⟨g1,_,_,_,_,_,_,hp,_⟩:=hse.open
  rw[hp] at HC ⊢
  clear hse hp hn1 hn2 hcr d2 HF eS
  go_wp2_with fail
  go_at_call 63
  refine HC.out.mono ?_
  rintro e w1 ⟨v,rfl,hown,hg1⟩
  obtain⟨a,m,c,rfl⟩:=an hown
  have em:=au hown
  subst em
  have HG1:=af hg1
  have HOW:=af hown
  clear HC hown hg1
  go_wp2_with fail
  go_loopw [8,9] (fun t i wr=>∃ j:Nat,j≤M.length∧i=.int .i64 j∧t=.string (ep (M.take j))∧w1.grownBy wr none) (fun _ i _=>M.length - (intOf i).toNat)
  case atStart=>exact⟨0,Nat.zero_le _,rfl,rfl,ag _ _⟩
  case round=>
   obtain⟨j,hj,rfl,rfl,hg⟩:=hrel
   have HG:=af hg
   by_cases hlt:j<M.length
   ·have how:=aq HOW.out hg (fun g hg=>by cases hg)
    obtain⟨gl,rfl,_,hgb,hgl,hcell⟩:=aC how (by omega)
    obtain⟨x0,x1,x2,x3,x4,x5⟩:=gn M j hlt
    have d0:=hcell _ _ x0
    have d1:=hcell _ _ x1
    have d2:=hcell _ _ x2
    have d3:=hcell _ _ x3
    have d4:=hcell _ _ x4
    have d5:=hcell _ _ x5
    have hmj:=HM.out M[j] (List.getElem_mem hlt)
    have HWR:=af (fun W=>oM M[j] W hmj.2 hmj.1)
    have hws:=pj hmj.1
    have HTT:=af (p8 M j hlt)
    have hts:(ep (M.take j)).size≤302*10000000000:=by
     have:=HTS.out j
     have e:(M.take j).length≤10000000000:=by simp;omega
     omega
    unfold ey at HWR
    generalize M[j]=it at*
    obtain⟨tt,htt⟩:∃ tt,tt=ep (M.take j):=⟨_,rfl⟩
    obtain⟨wt,hwt⟩:∃ wt,wt=fQ it:=⟨_,rfl⟩
    rw[←htt,←hwt] at HTT
    rw[←htt] at hts ⊢
    rw[←hwt] at hws HWR
    have hs2:(tt++wt).size=tt.size+wt.size:=ByteArray.size_append
    clear how hcell x0 x1 x2 x3 x4 x5 hgb hg htt hwt hmj
    go_wp2_with fail
    go_at_call 64
    refine (HWR.out _).mono ?_
    rintro er w2 ⟨rfl,hg2⟩
    have HG2:=af hg2
    clear hg2
    go_wp2_with fail
    go_roundw
    case rel=>exact⟨j+1,by omega,by go_num,by rw[HTT.out],ae HG.out HG2.out⟩
    case measure=>simp[intOf];omega
   ·have e:M.take j=M:=List.take_of_length_le (by omega)
    rw[e]
    clear hg
    go_wp2_with fail
    go_ret2
    exact⟨rfl,ae HG1.out HG.out⟩
 ·exfalso
  have:=HFS.out
  rw[iX hn] at this
  cases this
theorem rp (Q:Value→eW)(y:Nat)(E:bm)(f:List Nat)(n:Int)(w:World)(hE:bJ Q y E w f)(hW:kz E)(hf:du E.opn n=none):
  Calls Tryz.prog 32 #[.pointer (some ⟨y,0,none⟩),.int .i64 n] w fun e w'=>e=.returned (.tuple #[.string ByteArray.empty,.int .i64 6])∧w.grownBy w' none:=by
 obtain⟨rv,cv,kv,ov,cs,ps,f1,f2,⟨hb,rfl⟩,⟨f3,f4,_,⟨f5,f6,⟨hcr,_⟩,⟨f7,f8,hcom,⟨f9,f10,_,⟨f11,f12,⟨hor,_⟩,hses,_⟩,_⟩,_⟩,_⟩,_⟩,_⟩:=hE
 obtain⟨ao,mo,co,rfl⟩:=an hor
 have d4:w.cell? ⟨y,4,none⟩=some (.slice ao mo co):=by simp[World.cell?,hb]
 have HF:=af (dR y E.opn ps f12 n ao mo co w d4 hor hses (by have:=hW.opnLen;omega))
 have HFS:=af hf
 clear hb hses hcom d4 hor hf hcr
 go_enter Tryz.func32,Tryz.ntmps32
 go_wp2_with fail
 go_at_call 44
 refine HF.out.mono ?_
 rintro e w' ⟨⟨u,rfl,hans⟩,rfl⟩
 rcases hans with ⟨k,h1,h2,hn1,hn2,rfl⟩|⟨hn,rfl⟩
 ·exfalso
  have:=HFS.out
  rw[fX h1 hn1 hn2] at this
  cases this
 ·clear hn HF HFS
  go_wp2_with fail
  go_ret2
  exact⟨rfl,ag _ _⟩
end Go.Proofs.YthlhbjnkohinmaaGreat
