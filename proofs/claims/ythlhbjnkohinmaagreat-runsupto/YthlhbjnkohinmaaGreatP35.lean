import Derived.Test.YthlhbjnkohinmaaGreatP34
import Derived.Test.YthlhbjnkohinmaaGreatP20
import Derived.Laws.StructEq
import Derived.Test.YthlhbjnkohinmaaGreatP33
import Derived.Test.YthlhbjnkohinmaaGreatP18
import Derived.Test.YthlhbjnkohinmaaGreatP13
namespace Go.Proofs.YthlhbjnkohinmaaGreat
set_option maxRecDepth 100000
set_option maxHeartbeats 8000000
open Go.RowKit
def cJ (E:bk) (n:Int):(Int×Int)×bk:=match dq E.opn n with
 |none=>((0,6),E)
 |some S=>if dZ E S then ((0,10),dF E n) else if (aP S.wr).isEmpty then ((0,0),dF E n) else if ((dY E (aP S.wr).length).kept.length:Int)+(aP S.wr).length>E.room then ((0,11),dY E (aP S.wr).length) else (((E.com.length:Int)+1,0),dF ((dY E (aP S.wr).length).commit (aP S.wr)) n)
theorem nT {h:gt} {m t:Int} (hl:∀ p∈h,p.1≤m) (hm:m≤t):aM h t=aM h m:=by
 unfold aM
 have:∀ l:gt,(∀ p∈l,p.1≤m)→l.find? (fun p=>decide (p.1≤t))=l.find? (fun p=>decide (p.1≤m)):=by
  intro l hl
  cases l with
  |nil=>rfl
  |cons a r=>
   have:=hl a (by simp)
   rw[List.find?_cons,List.find?_cons,decide_eq_true (by omega),decide_eq_true (by omega)]
 rw[this _ (fun p hp=>hl p (by simpa using hp))]
def z9 (T:Int) (o:Option (Option Int)):gt:=match o with|some v=>[(T,v)]|none=>[]
theorem kS (T:Int) (wr:List Wr) {c:Nat} (hc:c<60):∀ n,n≤60→dG ((cD wr n).map fun p=>(T,p)) c=if c<n then z9 T (bR wr (aw c)) else []
 |0,_=>by simp[cD,dG]
 |n+1,hn=>by
  rw[kr,List.map_append,pw,kS T wr hc n (by omega)]
  cases h:cT wr n with
  |none=>
   simp only[Option.toList_none,List.map_nil]
   have e0:dG [] c=[]:=rfl
   rw[e0,List.append_nil]
   by_cases e:c<n
   ·rw[if_pos e,if_pos (by omega)]
   ·rw[if_neg e]
    by_cases e2:c<n+1
    ·have:c=n:=by omega
     subst this
     rw[if_pos e2]
     unfold cT at h
     unfold bR
     simp only[Option.map_eq_none_iff] at h
     rw[h];rfl
    ·rw[if_neg e2]
  |some p=>
   have hp:=gW h
   simp only[Option.toList_some,List.map_cons,List.map_nil]
   have e0:dG [(T,p)] c=if p.1=aw c then [(T,lH p.2)] else []:=by
    unfold dG
    rw[List.filterMap_cons]
    by_cases e:p.1=aw c
    ·rw[if_pos e,if_pos e];rfl
    ·rw[if_neg e,if_neg e];rfl
   rw[e0,hp]
   by_cases e:c=n
   ·subst e
    rw[if_neg (by omega),if_pos rfl,if_pos (by omega),List.nil_append]
    unfold cT at h
    unfold bR
    cases h1:bd (aw c) wr with
    |none=>rw[h1] at h;cases h
    |some k=>
     rw[h1] at h
     simp only[Option.map_some,Option.some.injEq] at h
     simp only[Option.map_some]
     rw[h]
     rfl
   ·rw[if_neg (show ¬aw n=aw c from fun he=>e (gQ (by omega) hc he).symm),List.append_nil]
    by_cases e2:c<n
    ·rw[if_pos e2,if_pos (by omega)]
    ·rw[if_neg e2,if_neg (by omega)]
theorem lE {wr:List Wr} {p:Wr} (h:p∈aP wr):∃ c k,c<60∧bd (aw c) wr=some k∧p=wr.getD k (ByteArray.empty,0)∧p.1=aw c∧p∈wr:=by
 unfold aP cD at h
 obtain⟨c,hc,hm⟩:=List.mem_filterMap.mp h
 have hp:=gW hm
 unfold cT at hm
 cases h1:bd (aw c) wr with
 |none=>rw[h1] at hm;cases hm
 |some k=>
  rw[h1] at hm
  simp only[Option.map_some,Option.some.injEq] at hm
  have hl:=fO h1
  refine⟨c,k,by simpa using hc,h1,hm.symm,hp,?_⟩
  rw[←hm]
  simp[List.getD,hl]
theorem Er {a b:Int} (ha:-1≤a) (hb:-1≤b) (h:lH a=lH b):a=b:=by
 unfold lH at h
 split at h <;> split at h
 ·omega
 ·cases h
 ·cases h
 ·simpa using h
theorem xU {com:List (List Wr)} {wr:List Wr} (hv:∀ q∈wr,-1≤q.2) {p:Wr} (h:p∈aP wr):dK (com++[aP wr]) p.1 (com.length+1)=(p.2,(com.length:Int)+1):=by
 obtain⟨c,k,hc,hk,e,hp,hm⟩:=lE h
 rw[mI]
 have hl:bR (aP wr) (aw c)=bR wr (aw c):=eL hc
 unfold bR at hl
 rw[hk] at hl
 simp only[Option.map_some] at hl
 rw[hp]
 cases h1:bd (aw c) (aP wr) with
 |none=>rw[h1] at hl;cases hl
 |some j=>
  rw[h1] at hl
  simp only[Option.map_some,Option.some.injEq] at hl
  simp only[]
  have hj:=fO h1
  have hjm:(aP wr).getD j (ByteArray.empty,0)∈aP wr:=by simp[List.getD,hj]
  obtain⟨_,_,_,_,_,_,hm2⟩:=lE hjm
  rw[←e] at hl
  rw[Er (hv _ hm2) (hv _ hm) hl]
theorem Ej {com:List (List Wr)} {l:List Wr} {sn:Int} (h:sn≤com.length):fS (com++[l]) sn=fS com sn:=by
 funext c
 unfold fS
 rw[mq]
 cases bR l (aw c) with
 |none=>simp
 |some v=>rw[eH,if_neg (by simp only;omega)]
theorem dk.commits {i:Nat} {X:ap} {F:dN} {E:bk} (h:dk X F E) (hg:eO i X) {n:Int} {j k:Nat} (hj:j<E.opn.length) (hf:aL X n=some k) (hfs:dq E.opn n=some E.opn[j]) (hss:df (X.ses k) E.opn[j].nf) (hcl:clash X (X.ses k)=false) (hcl2:dZ E E.opn[j]=false) (hne:(aP E.opn[j].wr).isEmpty=false) (hval:∀ q∈E.opn[j].wr,-1≤q.2) :
  dk ((X.setSes k .zero).commit (X.ses k)) (cy X ((X.setSes k .zero).commit (X.ses k)) F) (dF (E.commit (aP E.opn[j].wr)) n):=by
 obtain⟨l,hl⟩:∃ l,l=aP E.opn[j].wr:=⟨_,rfl⟩
 have hpos:=fun S (hS:S∈E.opn)=>h.pos hS
 have hla:=h.latest
 have hw:∀ c,c<60→(X.ses k).wr c=bR l (aw c):=fun c hc=>by
  rw[hl,eL hc]
  exact hss.wr c hc
 have hhist:∀ c,c<60→((X.setSes k .zero).commit (X.ses k)).hist c=X.hist c++z9 ((E.com.length:Int)+1) (bR l (aw c)):=fun c hc=>by
  show (match (X.ses k).wr c with|some v=>X.hist c++[(X.latest+1,v)]|none=>X.hist c)=_
  rw[hw c hc,hla]
  cases bR l (aw c) with
  |none=>simp[z9]
  |some v=>rfl
 have hfull:∀ c,dy (E.com++[l]) c=dy E.com c++z9 ((E.com.length:Int)+1) (bR l (aw c)):=fun c=>by
  rw[mq]
  cases bR l (aw c) <;> rfl
 rw[←hl] at hne ⊢
 obtain⟨lo,hh⟩:=h.his
 refine⟨?_,⟨lo,?_,fun S hS=>hh.snap S (List.mem_filter.mp hS).1,fun c hc t h1 h2=>?_⟩,⟨fun c hc=>?_,fun v hv=>?_,fun v hv=>?_⟩,fun S hS p hp hn=>?_⟩
 ·obtain⟨L,hs⟩:=h.sim
  obtain⟨_,L',h2⟩:=hs.commit n
  have e1:(jL (X.full E.com) n).2=((X.full E.com).setSes k .zero).commit (X.ses k):=by
   have a:aL (X.full E.com) n=some k:=hf
   have b:kC (X.ses k)=true:=by
    rw[tL hss]
    have:(aP E.opn[j].nf.wr).isEmpty=false:=by
     show (aP E.opn[j].wr).isEmpty=false
     rw[←hl];exact hne
    rw[this];rfl
   unfold jL
   rw[a]
   show (if kC (X.ses k) then (if clash X (X.ses k) then _ else _) else _:(Int×Int)×ap).2=_
   rw[b,hcl]
   rfl
  have e2:(kQ E.nf n).2=dF (E.nf.commit l) n:=by
   have a:dq E.nf.opn n=some E.opn[j].nf:=by
    have:dq E.nf.opn n=(dq E.opn n).map br.nf:=ph _ _
    rw[this,hfs];rfl
   unfold kQ
   rw[a]
   show (if dZ E E.opn[j] then _ else if (aP E.opn[j].wr).isEmpty then _ else _:(Int×Int)×bk).2=_
   rw[hcl2,←hl,hne]
   show dF (E.nf.commit (aP E.opn[j].wr)) n=_
   rw[←hl]
  rw[e1,e2] at h2
  refine⟨L',h2.swap rfl rfl rfl rfl rfl (fun c hc=>?_) rfl rfl ?_ rfl ?_⟩
  ·show dy (E.com++[l]) c=(match (X.ses k).wr c with|some v=>dy E.com c++[(X.latest+1,v)]|none=>dy E.com c)
   rw[hfull,hw c hc,hla]
   cases bR l (aw c) with
   |none=>simp[z9]
   |some v=>rfl
  ·show (dF (E.commit l) n).nf.opn=(dF E.nf n).opn
   rw[yY]
   rfl
  ·show keptN (ap.full _ (E.com++[l])) 60=(List.replicate (rL (E.com++[l])) ((0:Int),((ByteArray.empty,0):Wr))).length
   rw[ms,List.length_replicate]
 ·show lo≤((E.com++[l]).length:Int)
  have:=hh.le
  simp
  omega
 ·have h2':t≤(E.com.length:Int)+1:=by
   have:t≤((E.com++[l]).length:Int):=h2
   simpa using this
  show eZ (aM (((X.setSes k .zero).commit (X.ses k)).hist c) t) (aM (dy (E.com++[l]) c) t)
  rw[hhist c hc,hfull]
  by_cases e:t≤E.com.length
  ·have hold:=hh.seen c hc t h1 e
   cases hlw:bR l (aw c) with
   |none=>simpa [z9] using hold
   |some v=>
    show eZ (aM (X.hist c++[((E.com.length:Int)+1,v)]) t) (aM (dy E.com c++[((E.com.length:Int)+1,v)]) t)
    rw[eH,eH,if_neg (by simp only;omega),if_neg (by simp only;omega)]
    exact hold
  ·have et:t=(E.com.length:Int)+1:=by omega
   cases hlw:bR l (aw c) with
   |none=>
    have hold:=hh.seen c hc E.com.length hh.le (Int.le_refl _)
    show eZ (aM (X.hist c++[]) t) (aM (dy E.com c++[]) t)
    rw[List.append_nil,List.append_nil,nT (m:=E.com.length) (fun p hp=>by have:=(hg.his c p hp).1;omega) (by omega),nT (h:=dy E.com c) (m:=E.com.length) (fun p hp=>(lq hp).2) (by omega)]
    exact hold
   |some v=>
    show eZ (aM (X.hist c++[((E.com.length:Int)+1,v)]) t) (aM (dy E.com c++[((E.com.length:Int)+1,v)]) t)
    rw[eH,eH,if_pos (by simp only;omega),if_pos (by simp only;omega)]
    exact .refl _
 ·rw[hhist c hc,h.kept.hist c hc]
  show _=dG (E.kept++l.map fun p=>((E.com.length:Int)+1,p)) c
  rw[pw]
  congr 1
  have:=kS ((E.com.length:Int)+1) E.opn[j].wr hc 60 (Nat.le_refl _)
  rw[if_pos hc] at this
  have e:cD E.opn[j].wr 60=l:=hl.symm
  rw[e] at this
  rw[this,hl,eL hc]
 ·have hv':v∈E.kept++l.map fun p=>((E.com.length:Int)+1,p):=hv
  rcases List.mem_append.mp hv' with hv'|hv'
  ·exact h.kept.cell v hv'
  ·obtain⟨p,hp,rfl⟩:=List.mem_map.mp hv'
   rw[hl] at hp
   obtain⟨c,_,hc,_,_,e,_⟩:=lE hp
   exact⟨c,hc,e⟩
 ·have hv':v∈E.kept++l.map fun p=>((E.com.length:Int)+1,p):=hv
  show 1≤v.1∧v.1≤((E.com++[l]).length:Int)∧dK (E.com++[l]) v.2.1 v.1.toNat=(v.2.2,v.1)
  rcases List.mem_append.mp hv' with hv'|hv'
  ·obtain⟨w1,w2,w3⟩:=h.kept.was v hv'
   refine⟨w1,by simp;omega,?_⟩
   rw[jR _ _ _ _ (by omega)]
   exact w3
  ·obtain⟨p,hp,rfl⟩:=List.mem_map.mp hv'
   refine⟨by simp only;omega,by simp,?_⟩
   have e:((E.com.length:Int)+1).toNat=E.com.length+1:=by omega
   simp only[e]
   rw[hl] at hp ⊢
   exact xU hval hp
 ·have hS0:S∈E.opn:=(List.mem_filter.mp hS).1
  have hd:=h.fire.drop (fun S hS=>(hpos S hS).1) k n S hS p hp hn
  obtain⟨Rs,g1,g2,g3,g4⟩:=hd
  have hsn:fS (E.com++[l]) S.snap=fS E.com S.snap:=Ej (hpos S hS0).2.2.2
  refine⟨Rs,g1,g2,?_,?_⟩
  ·show my _ (fS (E.com++[l]) S.snap)
   rw[hsn]
   exact g3
  ·show iT _ _ _ (fS (E.com++[l]) S.snap) Rs
   rw[hsn]
   exact g4
theorem dk.commit {i:Nat} {X:ap} {F:dN} {E:bk} (h:dk X F E) (hg:eO i X) (hval:∀ S∈E.opn,∀ q∈S.wr,-1≤q.2) (n:Int):(bH X n).1=(cJ E n).1∧dk (bH X n).2 (cy X (bH X n).2 F) (cJ E n).2:=by
 have hla:=h.latest
 have hro:=h.room
 have hpos:=fun S (hS:S∈E.opn)=>h.pos hS
 have hdrop:∀ k,aL X n=some k→∀ jj,eF E.opn n=some jj→dk (X.setSes k .zero) (cy X (X.setSes k .zero) F) (dF E n):=fun k hk jj hjj=>by
  have:=(h.abort n).2
  have a1:(aX X n).2=X.setSes k .zero:=by unfold aX;rw[hk]
  have a2:(cR E n).2=dF E n:=by unfold cR;rw[hjj]
  rw[a1,a2] at this
  exact this
 unfold bH cJ
 rcases h.find n with ⟨e1,_,e2⟩|⟨j,k,hj,hk8,hn,hkn,e1,e3,e2,hss,hcl⟩
 ·rw[e1,e2,gb]
  exact⟨rfl,h⟩
 ·rw[e1,e2]
  have hS:=List.getElem_mem hj
  simp only[]
  have hw:kC (X.ses k)=!(aP E.opn[j].wr).isEmpty:=tL (S:=E.opn[j].nf) hss
  have hwn:cw (X.ses k) 60=(aP E.opn[j].wr).length:=jY (S:=E.opn[j].nf) hss 60 (Nat.le_refl _)
  rw[hw,hcl,hwn]
  cases he:(aP E.opn[j].wr).isEmpty with
  |true=>
   have hr:dZ E E.opn[j]=false:=by
    unfold dZ
    rw[List.isEmpty_iff.mp he]
    rfl
   rw[hr]
   exact⟨rfl,hdrop k e1 j e3⟩
  |false=>
   cases hr:dZ E E.opn[j] with
   |true=>exact⟨rfl,hdrop k e1 j e3⟩
   |false=>
    simp only[Bool.not_false,if_true,Bool.false_eq_true,if_false]
    obtain⟨m,hm⟩:∃ m,m=(aP E.opn[j].wr).length:=⟨_,rfl⟩
    rw[←hm]
    have hkl:=h.kept.len
    by_cases hfit:((keptN X 60+m:Nat):Int)≤X.room
    ·have r1:cK X m=(true,X):=by unfold cK;rw[if_pos hfit]
     have r2:dY E m=E:=by
      unfold dY
      rw[if_neg]
      rw[←hkl,←hro]
      omega
     rw[r1,r2]
     simp only[if_true]
     rw[if_neg (by rw[←hkl,←hro];omega)]
     refine⟨by rw[hla],h.commits hg hj e1 e2 hss (hcl.trans hr) hr he (hval _ hS)⟩
    ·have r1:cK X m=(decide (((keptN (X.swept (cN X 8)) 60+m:Nat):Int)≤X.room),X.swept (cN X 8)):=by unfold cK;rw[if_neg hfit]
     have r2:dY E m=(dT E).2:=by
      unfold dY
      rw[if_pos]
      rw[←hkl,←hro]
      omega
     have hsw:=(h.sweep hg).2
     have hkl2:=hsw.kept.len
     have hX1:(ch X).2=X.swept (cN X 8):=rfl
     rw[hX1] at hsw hkl2
     rw[r1,r2]
     simp only[]
     by_cases hfit2:((keptN (X.swept (cN X 8)) 60+m:Nat):Int)≤X.room
     ·rw[decide_eq_true hfit2,if_pos rfl,if_neg (by rw[←hkl2,←hro];omega)]
      refine⟨by rw[hla],?_⟩
      have hc:=hsw.commits (hg.swept _) (n:=n) (k:=k) (j:=j) hj e1 e2 hss (hcl.trans hr) hr he (hval _ hS)
      exact hc
     ·rw[decide_eq_false hfit2]
      simp only[Bool.false_eq_true,if_false]
      rw[if_pos (show ((dT E).2.kept.length:Int)+m>E.room by rw[←hkl2,←hro];omega)]
      refine⟨rfl,?_⟩
      have:cy X (X.swept (cN X 8)) F=F:=by
       funext q
       unfold cy
       rw[if_pos (show ((X.swept (cN X 8)).ses q).num=(X.ses q).num from rfl)]
      rw[this]
      exact hsw
def xV (l:List ByteArray) (k:ByteArray):Bool:=l.any fun t=>t.toList==k.toList
theorem zp (y:Nat) (com:List (List Wr)) (S:br) (p:Value) (a:Option Addr) (cp:Nat) (cs:List Value) (fc fp:List Nat) (i:In) (w:World)
  (hE:im y com S p a cp cs fc fp w) (hk:oK com S) (hf:i.facts.length≤100) (hr9:i.rule≤9) (hFl:S.fired.length≤1000000000000) :
  Calls Tryz.prog 92 #[.pointer (some ⟨y,0,none⟩),p,ep i] w fun e w'=>e=.returned (.bool (xV S.fired (i8 com S i)))∧w.grownBy w' none:=by
 have HKEY:Hid (∀ W,w.grownBy W none→Calls Tryz.prog 68 #[.pointer (some ⟨y,0,none⟩),p,ep i] W fun e w'=>e=.returned (.string (i8 com S i))∧W.grownBy w' none):=af (fun W hW=>yr y com S p a cp cs fc fp i W (hE.kept hW) hk hf hr9)
 obtain⟨g1,a1,m1,c1,a2,m2,c2,rfl,hb1,ho1,ho2,_⟩:=hE.ses.open
 have em:=ar ho2
 subst em
 have HROW:=af ho2
 obtain⟨FL,hFLe⟩:∃ FL,FL=S.fired:=⟨_,rfl⟩
 obtain⟨ky,hky⟩:∃ ky,ky=i8 com S i:=⟨_,rfl⟩
 rw[←hFLe] at HROW hFl hb1
 rw[←hky] at HKEY
 rw[←hFLe,←hky]
 obtain⟨res,hres⟩:∃ res,res=xV FL ky:=⟨_,rfl⟩
 rw[←hres]
 have HRES:=af hres
 have HB:Hid (∀ W,w.grownBy W none→W.cell? ⟨g1,3,none⟩=some (.slice a2 FL.length c2)):=af (fun W hW=>by
  have hb:=(hW.block _ (lt_of_block hb1) (by simp)).trans hb1
  rw[cell_of_row _ _ _ _ _ _ hb];rfl)
 unfold ep at HKEY ⊢
 obtain⟨ft,hft⟩:∃ ft,ft=bA i.facts:=⟨_,rfl⟩
 rw[←hft] at HKEY ⊢
 obtain⟨ru,hru⟩:∃ ru:Int,ru=i.rule:=⟨_,rfl⟩
 rw[←hru] at HKEY ⊢
 generalize eI i.env 0=e0 at HKEY ⊢
 generalize eI i.env 1=e1 at HKEY ⊢
 generalize eI i.env 2=e2 at HKEY ⊢
 generalize eI i.env 3=e3 at HKEY ⊢
 clear hE hk hft hru ho1 ho2 hb1 hres hky hFLe
 go_enter Tryz.func92,Tryz.ntmps92
 go_wp2_with fail
 go_at_call 68
 refine (HKEY.out _ (ab (ag _ _) _)).mono ?_
 rintro er w1 ⟨rfl,hg1⟩
 have hgw:=ae (ab (ag w none) _) hg1
 have d3:=HB.out w1 hgw
 have HG:=af hgw
 have HR1:=af (aq HROW.out hgw (fun g hg=>by cases hg))
 clear hg1 hgw
 go_wp2_with fail
 go_loop [8] (fun i=>∃ j:Nat,j≤FL.length∧i=.int .i64 j∧∀ t (h:t<FL.length),t<j→(FL[t].toList==ky.toList)=false) (fun i=>FL.length - (intOf i).toNat)
 case atStart=>exact⟨0,by omega,rfl,fun t _ h=>by omega⟩
 case round=>
  obtain⟨j,hj,rfl,hno⟩:=hrel
  have HNO:=af hno
  clear hno
  by_cases hlt:j<FL.length
  ·obtain⟨gf,rfl,_,_,_,hcell⟩:=aC HR1.out (by omega)
   have e0:w1.cell? ⟨gf,j,none⟩=some (.string FL[j]):=hcell j _ (by simp[hlt])
   obtain⟨fj,hfj⟩:∃ fj,fj=FL[j]:=⟨_,rfl⟩
   rw[←hfj] at e0
   cases q:(fj.toList==ky.toList) with
   |true=>
    have HRT:Hid (res=true):=af (by
     rw[HRES.out]
     unfold xV
     rw[List.any_eq_true]
     exact⟨FL[j],List.getElem_mem hlt,by rw[←hfj];exact q⟩)
    have j0:(0:Int)≤(j:Int):=by omega
    have j1:(j:Int)<(FL.length:Int):=by omega
    clear hcell hfj
    go_wp2_with fail
    go_ret
    exact⟨by rw[HRT.out];rfl,HG.out⟩
   |false=>
    have HNO2:Hid (∀ t (h:t<FL.length),t<j+1→(FL[t].toList==ky.toList)=false):=af (fun t ht h2=>by
     by_cases e:t=j
     ·subst e;rw[←hfj];exact q
     ·exact HNO.out t ht (by omega))
    have j0:(0:Int)≤(j:Int):=by omega
    have j1:(j:Int)<(FL.length:Int):=by omega
    clear hcell hfj
    go_wp2_with fail
    go_round
    case rel=>exact⟨j+1,by omega,by go_num,HNO2.out⟩
    case measure=>simp[intOf];omega
  ·have HRF:Hid (res=false):=af (by
    rw[HRES.out]
    unfold xV
    rw[List.any_eq_false]
    intro x hx
    obtain⟨t,ht,e⟩:=List.getElem_of_mem hx
    rw[←e,HNO.out t ht (by omega)]
    simp)
   go_wp2_with fail
   go_ret
   exact⟨by rw[HRF.out];rfl,HG.out⟩
theorem D7 {W w:World} (h:Fr [] W w) (x0 x1:Value):Fr [] W ((w.setCell ⟨W.heap.size,0,none⟩ x0).setCell ⟨W.heap.size,1,none⟩ x1):=by
 exact (h.set (.inr (by simp)) _).set (.inr (by simp)) _
theorem AT (s:ByteArray) (i:In) (K:List Nat) (y gr rm rc ac:Nat) (ga:Option Addr) (w:World) (hs:s.size≤400) (hK:K.length≤400) (hKo:∀ p∈K,cP s p=true) (he:∀ n v,i.env n=some v→0≤v∧v≤9) (hrk:(i.rule:Int)<rm) (_hrm:rm≤400)
  (y1:y<w.heap.size) (g1:gr<w.heap.size) (hy:w.cell? ⟨y,0,none⟩=some (.slice (some ⟨gr,0,none⟩) rm rc)) (hr:w.cell? ⟨gr,i.rule*3+2,none⟩=some (.slice ga K.length ac)) (hrow:w.ownsRow 0 9 1 (.slice ga K.length ac) K.length (gI s K)) :
  Calls Tryz.prog 67 #[.pointer (some ⟨y,0,none⟩),ep i] w (Fg (iz (-1) s i.env K) w):=by
 obtain⟨i0,hi0,hz0,hz1,hz2⟩:=info_parts Tryz.info107
 have HROW:=af hrow
 have HDO:Hid (∀ k (hk:k<K.length) (W:World),Calls Tryz.prog 98 #[fF i.env,.string (s.extract K[k] (K[k]+aT s K[k]))] W fun r w'=>r=.returned (.tuple #[.agg #[.string (tO s i.env K[k]).c,.int .i64 (tO s i.env K[k]).v],.bool (tO s i.env K[k]).ok,.bool (tO s i.env K[k]).h])∧W.grownBy w' none):=af (fun k hk W=>by
  rw[←Fb]
  exact BV i.env s K[k] W hs (hKo _ (List.getElem_mem hk)) he)
 have HST:Hid (∀ j (hj:j<K.length) (q:List (Nat×Option Int)×Bool),_):=af (fun j hj q=>DP s i.env K j hj q)
 have HLN:=af (qG (-1) s i.env K)
 have HALL:Hid (iz (-1) s i.env (K.take K.length)=iz (-1) s i.env K):=af (by rw[List.take_length])
 have HZ:Hid (iz (-1) s i.env (K.take 0)=some ([],false)):=af rfl
 obtain⟨a0,ha0⟩:∃ a0,a0=eI i.env 0:=⟨_,rfl⟩
 obtain⟨a1,ha1⟩:∃ a1,a1=eI i.env 1:=⟨_,rfl⟩
 obtain⟨a2,ha2⟩:∃ a2,a2=eI i.env 2:=⟨_,rfl⟩
 obtain⟨a3,ha3⟩:∃ a3,a3=eI i.env 3:=⟨_,rfl⟩
 obtain⟨ft,hft⟩:∃ ft,ft=bA i.facts:=⟨_,rfl⟩
 obtain⟨ru,hru⟩:∃ ru,ru=i.rule:=⟨_,rfl⟩
 unfold fF at HDO
 unfold ep
 rw[←ha0,←ha1,←ha2,←ha3] at HDO ⊢
 rw[←hru] at hrk hr ⊢
 rw[←hft]
 obtain⟨E,hE⟩:∃ E,E=i.env:=⟨_,rfl⟩
 rw[←hE] at HDO HST HLN HALL HZ ⊢
 obtain⟨OUT,hOUT⟩:∃ OUT,OUT=iz (-1) s E K:=⟨_,rfl⟩
 rw[←hOUT] at HST HALL ⊢
 clear hrow ha0 ha1 ha2 ha3 hft hru hE hOUT he hKo
 go_enter Tryz.func67,Tryz.ntmps67
 go_wp2_with fail
 go_quiet ((fail))
 generalize hW0:World.drewN _ _=W0
 have HW0:Hid (w.grownBy W0 none∧W0.heap[w.heap.size]?=some (.cells #[.int .i64 ru,.int .i64 a0,.int .i64 a1,.int .i64 a2,.int .i64 a3,.string ft] 136 (0,0))∧w.heap.size<W0.heap.size):=af (by
  rw[←hW0]
  exact⟨al (ab (ag _ _) _) _,heap_alloc_new w _,by simp⟩)
 clear hW0
 go_wp2_with fail
 have HRC:Hid (∀ k (hk:k<K.length) W,w.grownBy W none→∃ gc,ga=some ⟨gc,0,none⟩∧gc<w.heap.size∧W.cell? ⟨gc,k,none⟩=some (.string (s.extract K[k] (K[k]+aT s K[k])))):=af (fun k hk W hW=>by
  obtain⟨gc,e,_,_,hgc,hcell⟩:=aC HROW.out (by omega)
  refine⟨gc,e,hgc,am hW (hcell k _ ?_)⟩
  simp[gI,hk])
 clear hy hr HROW
 go_loopw [7,9,10] (fun v h t wr=>∃ k:Nat,∃ q:List (Nat×Option Int)×Bool,k≤K.length∧t=.int .i64 k∧h=.bool q.2∧iz (-1) s E (K.take k)=some q∧wr.ownsRow W0.heap.size 107 2 v q.1.length (aO (q.1.map ip))∧Fr [] W0 wr) (fun _ _ t _=>K.length - (intOf t).toNat)
 case atStart=>exact⟨0,([],false),by omega,rfl,rfl,HZ.out,World.ownsRow_nil _ _ _ _,Fr.refl [] _⟩
 case round=>
  obtain⟨k,q,hk,rfl,rfl,hq,hown,hfr⟩:=hrel
  have HFR:=af hfr
  have HOW:=af hown
  have HQ:=af hq
  have hql:=HLN.out k hk q hq
  have HGR:=af (ae HW0.out.1 (bG hfr))
  obtain⟨av,mv,cv,rfl⟩:=an hown
  have em:=ar hown
  subst em
  by_cases hlt:k<K.length
  ·obtain⟨gc,rfl,hgc,k4⟩:=HRC.out k hlt wr HGR.out
   have hbx:wr.heap[w.heap.size]?=some (.cells #[.int .i64 ru,.int .i64 a0,.int .i64 a1,.int .i64 a2,.int .i64 a3,.string ft] 136 (0,0)):=(hfr.block _ HW0.out.2.2 (by simp)).trans HW0.out.2.1
   have k0:wr.cell? ⟨w.heap.size,1,none⟩=some (.int .i64 a0):=by rw[cell_of_row _ _ _ _ _ _ hbx];rfl
   have k1:wr.cell? ⟨w.heap.size,2,none⟩=some (.int .i64 a1):=by rw[cell_of_row _ _ _ _ _ _ hbx];rfl
   have k2:wr.cell? ⟨w.heap.size,3,none⟩=some (.int .i64 a2):=by rw[cell_of_row _ _ _ _ _ _ hbx];rfl
   have k3:wr.cell? ⟨w.heap.size,4,none⟩=some (.int .i64 a3):=by rw[cell_of_row _ _ _ _ _ _ hbx];rfl
   have nb1:w.heap.size<wr.heap.size:=Nat.lt_of_lt_of_le HW0.out.2.2 hfr.size
   have nb:w.heap.size≠wr.heap.size:=by omega
   have nf1:gc<wr.heap.size:=by omega
   have nf:gc≠wr.heap.size:=by omega
   have HC:=af (HDO.out k hlt)
   have HS:=af (HST.out k hlt q hq)
   obtain⟨D,hD⟩:∃ D,D=tO s E K[k]:=⟨_,rfl⟩
   rw[←hD] at HC HS
   obtain⟨ct,hct⟩:∃ ct,ct=s.extract K[k] (K[k]+aT s K[k]):=⟨_,rfl⟩
   rw[←hct] at k4 HC
   obtain⟨dc,dv,dok,dh⟩:=D
   simp only at HC HS
   clear hD hct hbx hown hq hfr
   go_wp2_with fail
   go_cut [11,12,13] from 30 to 39 (fun p o h wx=>∃ g,p=.pointer (some ⟨g,0,none⟩)∧o=.bool dok∧h=.bool dh∧wx.heap[g]?=some (.cells #[.string dc,.int .i64 dv] 107 (0,0))∧wr.heap.size≤g∧Fr [] wr wx)
   case first=>
    go_region_held3 (fun W=>W.cell? ⟨w.heap.size,1,none⟩=some (.int .i64 a0)∧W.cell? ⟨w.heap.size,2,none⟩=some (.int .i64 a1)∧W.cell? ⟨w.heap.size,3,none⟩=some (.int .i64 a2)∧W.cell? ⟨w.heap.size,4,none⟩=some (.int .i64 a3)∧W.cell? ⟨gc,k,none⟩=some (.string ct)) (first|(with_reducible exact⟨m0,m1,m2,m3,m4⟩)|(simp only[World.cell?_drew];with_reducible exact⟨k0,k1,k2,k3,k4⟩)|(simp only[World.cell?_drew,cQ nb1,cQ nf1];with_reducible exact⟨k0,k1,k2,k3,k4⟩)|(simp only[cQ nbw,cQ nfw];with_reducible exact⟨m0,m1,m2,m3,m4⟩)|(simp only[eB nb,eB nf];with_reducible exact⟨m0,m1,m2,m3,m4⟩)) (first
     |(go_at_call 98
       refine (HC.out _).mono ?_
       rintro er w1 ⟨rfl,hg1⟩
       have hfr1:Fr [] wr w1:=by first|exact (as (Fr.refl [] wr)).trans (aJ hg1)|exact (as (az wr _)).trans (aJ hg1)|exact ((as (Fr.refl [] wr)).alloc _).trans (aJ hg1)
       have nbw:w.heap.size<w1.heap.size:=Nat.lt_of_lt_of_le nb1 hfr1.size
       have nfw:gc<w1.heap.size:=Nat.lt_of_lt_of_le nf1 hfr1.size
       have m0:=aB hfr1 k0
       have m1:=aB hfr1 k1
       have m2:=aB hfr1 k2
       have m3:=aB hfr1 k3
       have m4:=aB hfr1 k4
       have HF1:=af hfr1
       clear hfr1
       try (
        have hnew:w1.heap[wr.heap.size]?=some (.cells #[.string ByteArray.empty,.int .i64 0] 107 (0,0)):=(hg1.block wr.heap.size (by simp) (by simp)).trans (heap_alloc_new _ _)
        have n0:w1.cell? ⟨wr.heap.size,0,none⟩=some (.string ByteArray.empty):=by rw[cell_of_row _ _ _ _ _ _ hnew];rfl
        have n1:w1.cell? ⟨wr.heap.size,1,none⟩=some (.int .i64 0):=by rw[cell_of_row _ _ _ _ _ _ hnew];rfl
        have z0:=ai hnew 0
        have z1:=ai hnew 1
        have HNEW:=af hnew
        clear hnew)
       clear hg1))
    all_goals go_wp2_with fail
    all_goals go_meet
    all_goals first
     |exact⟨wr.heap.size,rfl,rfl,rfl,ah (ah HNEW.out _ _) _ _,Nat.le_refl _,D7 HF1.out _ _⟩
     |exact⟨w1.heap.size,rfl,rfl,rfl,heap_alloc_new w1 _,HF1.out.size,HF1.out.alloc _⟩
   case rest=>
   obtain⟨g,rfl,rfl,rfl,hge,hgl,hfr⟩:=hcut
   have HFC:=af (HFR.out.trans hfr)
   have HGC:=af (ae HW0.out.1 (bG HFC.out))
   have how:=aq HOW.out (bG hfr) (fun g hg=>by cases hg)
   clear k0 k1 k2 k3 k4 nb nb1 nf nf1 hfr HC HFR HGR HOW
   cases dok with
   |false=>
    have HN:Hid (OUT=none):=af (HS.out.1 rfl)
    clear how hge HS
    go_wp2_with fail
    go_ret3
    exact⟨HGC.out,by rw[HN.out];rfl⟩
   |true=>
    cases dh with
    |true=>
     have HN:Hid (iz (-1) s E (K.take (k+1))=some (q.1,true)):=af (HS.out.2.1 rfl rfl)
     have HO:=af how
     clear how hge HS
     go_wp2_with fail
     go_roundw
     case rel=>exact⟨k+1,(q.1,true),by omega,by go_num,rfl,HN.out,HO.out,HFC.out⟩
     case measure=>simp[intOf];omega
    |false=>
     obtain⟨x,hx,hxw⟩:=HS.out.2.2 rfl rfl
     have HN:=af hx
     have HCL:Hid (aO ((q.1++[x]).map ip)=aO (q.1.map ip)++[.string dc,.int .i64 dv]):=af (by rw[List.map_append,List.map_cons,List.map_nil,j8,hxw])
     have f0:wc.cell? ⟨g,0,none⟩=some (.string dc):=by rw[cell_of_row _ _ _ _ _ _ hge];rfl
     have f1:wc.cell? ⟨g,1,none⟩=some (.int .i64 dv):=by rw[cell_of_row _ _ _ _ _ _ hge];rfl
     have hsz:=HFC.out.size
     have HO:=af how
     obtain⟨XS,hXS⟩:∃ XS,XS=aO (q.1.map ip):=⟨_,rfl⟩
     rw[←hXS] at how HO HCL
     clear hge HS hx hxw hXS
     go_wp2_with (first|(at_builtin;refine wpList_append_own _ rfl (.tmp 43) (.tmp 45) 97 rfl W0.heap.size 107 i0 (.agg #[.string ByteArray.empty,.int .i64 0]) 2 24 Tryz.underlying97 hi0 hz0 hz1 hz2 rfl (by decide) _ _ _ rfl (how.alloc _) _ 1 1 [.string dc,.int .i64 dv] rfl rfl ?c1 ?c2 ?c3 ?c4 ?c5 ?_))
     case c1=>intro j u hj;exact bj hj
     case c2=>intro u hu;simp at hu;rcases hu with h|h <;> subst h <;> rfl
     case c3=>unfold maxLen;omega
     case c4=>omega
     case c5=>simp;omega
     ·intro v' w5 hown5 hg5 _
      have HG5:Hid (Fr [] W0 w5):=af (aJ (aK (ab (bG HFC.out) _) hg5 (fun g hg=>(HO.out.lt g hg).1)))
      have HO5:Hid (w5.ownsRow W0.heap.size 107 2 v' (q.1++[x]).length (aO ((q.1++[x]).map ip))):=af (by
       rw[HCL.out,List.length_append]
       exact hown5)
      clear hown5 hg5 how f0 f1
      go_wp2_with fail
      go_roundw
      case rel=>exact⟨k+1,(q.1++[x],q.2),by omega,by go_num,rfl,HN.out,HO5.out,HG5.out⟩
      case measure=>simp[intOf];omega
  ·have ek:k=K.length:=by omega
   subst ek
   have HO:Hid (OUT=some q):=af (by rw[←HALL.out];exact HQ.out)
   clear hown hfr
   go_wp2_with fail
   go_ret3
   refine⟨HGR.out,?_⟩
   rw[HO.out]
   exact⟨_,rfl,bO HOW.out (Nat.le_of_lt HW0.out.2.2)⟩
end Go.Proofs.YthlhbjnkohinmaaGreat
