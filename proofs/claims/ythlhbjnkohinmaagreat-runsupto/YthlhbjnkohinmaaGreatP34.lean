import Derived.Test.YthlhbjnkohinmaaGreatP33
import Derived.Test.YthlhbjnkohinmaaGreatP14
import Derived.Deep.RegionHeld3
import Derived.Test.YthlhbjnkohinmaaGreatP32
import Derived.Lib.AppendStr
import Derived.Laws.IdiomStrings
namespace Go.Proofs.YthlhbjnkohinmaaGreat
set_option maxRecDepth 100000
set_option maxHeartbeats 8000000
open Go.RowKit
theorem qA {P:Program}(w:World)(t e:TypeId)(ad:Option Addr)(n c i sz:Nat)(hu:P.underlying t=some (.slice e))(hi:(P.info? e).map (·.size)=some sz)(h1:i≤n):
  (Instr.sliceAt t (.slice ad n c) (some (.int .i64 i)) none none).run P w=.ok (.slice (if c=i then ad else ad.map (·.add (i*sz))) (n - i) (c - i)) w:=by
 cases hq:P.info? e with
 |none=>simp[hq] at hi
 |some d=>
  simp[hq] at hi
  simp[Instr.sliceAt,Instr.slice,Instr.sliceBounds,Instr.sliceBound,underlying,sizeOf,typeInfo,hu,hq,hi,asIntOf]
  intro h
  omega
theorem dW {P:Program}{ops:Array Oper}{rest:List Oper}{op:Oper}{a:Act}{w:World}{Q:Exit→Act→World→Prop}(hgd:op.guard=none)(t e:TypeId)(x y:Operand)(ho:op.op=.slice t x (some y) none none)
  (ad:Option Addr) (n c i sz:Nat) (hx:a.eval x=.slice ad n c) (hy:a.eval y=.int .i64 i) (h1:i≤n) (hu:P.underlying t=some (.slice e)) (hi:(P.info? e).map (·.size)=some sz)
  (h:wpList P ops Q rest (a.put op.dst (.slice (if c=i then ad else ad.map (·.add (i*sz))) (n - i) (c - i))) w):wpList P ops Q (op::rest) a w:=
 wpList_plain hgd fun _ hK=>by
  unfold Oper.wp execOp
  have:=qA (P:=P) w t e ad n c i sz hu hi h1
  simp only[ho,hx,hy,Option.map_some,Option.map_none,Sem.run_bind,Sem.run_pure,this,Result.andThen_ok]
  exact hK _ _ h
def i9 (wt:Nat→Int)(a b:In):Bool:=Ch (wt a.rule) (b9 a.facts) (wt b.rule) (b9 b.facts)
theorem tw (wt:Nat→Int){w:World}{g o:Nat}{l:List In}(h:w.rangeAt g o (cD wt l)){k:Nat}(hk:k<l.length):w.rangeAt g (o+k*24) (aG (wt l[k].rule) l[k]):=fun j v hv=>by
 have:=h _ v (ts (f:=fun i:In=>aG (wt i.rule) i) (m:=24) (fun _=>rfl) l k hk j v hv)
 rw[←Nat.add_assoc] at this
 exact this
theorem di {w w':World}{g o:Nat}{cs:List Value}(h:w.rangeAt g o cs)(hg:w.grownBy w' none):w'.rangeAt g o cs:=fun j v hv=>am hg (h j v hv)
theorem lf (wt:Nat→Int):∀ l:List In,(cD wt l).length=l.length*24
 |[]=>rfl
 |i::l=>by
  have:=lf wt l
  unfold cD at this ⊢
  rw[List.flatMap_cons,List.length_append,this,eD,List.length_cons,Nat.add_mul]
  omega
theorem sy (wt:Nat→Int):∀ (l:List In) (p:Nat),(cD wt l).drop (p*24)=cD wt (l.drop p)
 |l,0=>by simp
 |[],p+1=>by simp[cD]
 |i::l,p+1=>by
  have:=sy wt l p
  unfold cD at this ⊢
  rw[List.flatMap_cons,List.drop_succ_cons,←this,Nat.add_mul,List.drop_append,eD,show p*24+1*24 - 24=p*24 by omega,List.drop_eq_nil_of_le (by rw[eD];omega),List.nil_append]
theorem sd (wt:Nat→Int)(l:List In):∀ u∈cD wt l,u.oneCell'=true:=by
 intro u hu
 obtain⟨i,_,hi⟩:=List.mem_flatMap.mp hu
 exact cm _ _ u hi
theorem tf (wt:Nat→Int){w:World}{g o c:Nat}{l:List In}(h:w.rangeAt g o (cD wt l))(hc:l.length≤c){p:Nat}(hp:p≤l.length):∃ A,(if c=p then some (⟨g,o,none⟩:Addr) else (some (⟨g,o,none⟩:Addr)).map (·.add (p*24)))=some A∧∀ j u,(cD wt (l.drop p))[j]?=some u→w.cell? (A.add j)=some u:=by
 have hadd:∀ (b f n:Nat),(⟨b,f,none⟩:Addr).add n=⟨b,f+n,none⟩:=fun b f n=>by unfold Addr.add;split <;> simp_all
 by_cases e:c=p
 ·rw[if_pos e]
  refine⟨_,rfl,fun j u hu=>?_⟩
  rw[List.drop_eq_nil_of_le (by omega)] at hu
  simp[cD] at hu
 ·rw[if_neg e]
  refine⟨_,rfl,fun j u hu=>?_⟩
  rw[←sy,List.getElem?_drop] at hu
  show w.cell? ((Addr.add ⟨g,o,none⟩ (p*24)).add j)=some u
  rw[hadd,hadd,Nat.add_assoc]
  exact h _ u hu
theorem vy (wt:Nat→Int)(l r:List In)(gl ol cl gr og cr:Nat)(w:World)(hl:l.length≤2160000)(hr:r.length≤2160000)(hcl:l.length≤cl)(hcr:r.length≤cr)(_hbl:gl<w.heap.size)(_hbr:gr<w.heap.size)
  (hL:w.rangeAt gl ol (cD wt l)) (hR:w.rangeAt gr og (cD wt r)) :
  Calls Tryz.prog 90 #[.slice (some ⟨gl,ol,none⟩) l.length cl,.slice (some ⟨gr,og,none⟩) r.length cr] w fun e w'=>∃ v,e=.returned v∧w'.ownsRow w.heap.size 176 24 v (kK (i9 wt) l r).length (cD wt (kK (i9 wt) l r))∧w.grownBy w' none:=by
 obtain⟨i0,hi0,hz0,hz1,hz2⟩:=info_parts Tryz.infoI
 have HL:=af hL
 have HR:=af hR
 clear hL hR
 go_enter Tryz.func90,Tryz.ntmps90
 go_wp2_with fail
 go_loopw [5,6,7] (fun t il ir wr=>∃ (p q:Nat) (out:List In),p≤l.length∧q≤r.length∧il=.int .i64 p∧ir=.int .i64 q∧out++kK (i9 wt) (l.drop p) (r.drop q)=kK (i9 wt) l r∧out.length=p+q∧wr.ownsRow w.heap.size 176 24 t out.length (cD wt out)∧w.grownBy wr none) (fun _ il ir _=>l.length+r.length - ((intOf il).toNat+(intOf ir).toNat))
 case atStart=>exact⟨0,0,[],by omega,by omega,rfl,rfl,by simp,rfl,World.ownsRow_nil _ _ _ _,ag _ _⟩
 case round=>
  obtain⟨p,q,out,hp,hq,rfl,rfl,hout,hol,hown,hg⟩:=hrel
  have HG:=af hg
  have HOW:=af hown
  have HOUT:=af hout
  have hsz:=hg.size
  obtain⟨a,m,cc,rfl⟩:=an hown
  have em:=ar hown
  subst em
  have HLT:=af (fun g hg=>(HOW.out.lt g hg).1)
  have HOWG:Hid (∀ W,wr.grownBy W none→W.ownsRow w.heap.size 176 24 (.slice a out.length cc) out.length (cD wt out)):=af (fun W hW=>aq HOW.out hW (fun g hg=>by cases hg))
  by_cases hboth:p<l.length∧q<r.length
  ·obtain⟨hpl,hqr⟩:=hboth
   obtain⟨AL,hAL⟩:∃ AL,AL=aG (wt l[p].rule) l[p]:=⟨_,rfl⟩
   obtain⟨BR,hBR⟩:∃ BR,BR=aG (wt r[q].rule) r[q]:=⟨_,rfl⟩
   have hALl:AL.length=24:=by rw[hAL];rfl
   have hBRl:BR.length=24:=by rw[hBR];rfl
   have HRAL:Hid (wr.rangeAt gl (ol+p*24) AL):=af (by rw[hAL];exact di (tw wt HL.out hpl) hg)
   have HRBR:Hid (wr.rangeAt gr (og+q*24) BR):=af (by rw[hBR];exact di (tw wt HR.out hqr) hg)
   have HIAL:Hid ((Tryz.prog.info? 176).map (·.size)=some AL.length):=af (by rw[hALl];exact bE)
   have HIBR:Hid ((Tryz.prog.info? 176).map (·.size)=some BR.length):=af (by rw[hBRl];exact bE)
   have HZAL:Hid ((Tryz.prog.info? 176).map (fun i=>(i.zero,i.size))=some (some (.agg #[.int .i64 0,.int .i64 0,.int .i64 0,.int .i64 0,.int .i64 0,.int .i64 0,.int .i64 0,.int .i64 0,.int .i64 0,.int .i64 0,.int .i64 0,.int .i64 0,.int .i64 0,.int .i64 0,.int .i64 0,.int .i64 0,.bool false,.bool false,.bool false,.bool false,.int .i64 0,.int .i64 0,.int .i64 0,.int .i64 0]),AL.length)):=af (by rw[hALl];kernel_rfl)
   have HZBR:Hid ((Tryz.prog.info? 176).map (fun i=>(i.zero,i.size))=some (some (.agg #[.int .i64 0,.int .i64 0,.int .i64 0,.int .i64 0,.int .i64 0,.int .i64 0,.int .i64 0,.int .i64 0,.int .i64 0,.int .i64 0,.int .i64 0,.int .i64 0,.int .i64 0,.int .i64 0,.int .i64 0,.int .i64 0,.bool false,.bool false,.bool false,.bool false,.int .i64 0,.int .i64 0,.int .i64 0,.int .i64 0]),BR.length)):=af (by rw[hBRl];kernel_rfl)
   have HOAL:Hid (∀ u∈AL,u.oneCell'=true):=af (by rw[hAL];exact cm _ _)
   have HOBR:Hid (∀ u∈BR,u.oneCell'=true):=af (by rw[hBR];exact cm _ _)
   have HAH:Hid (∀ W,Calls Tryz.prog 114 #[.agg BR.toArray,.agg AL.toArray] W fun e w'=>e=.returned (.bool (i9 wt r[q] l[p]))∧W.grownBy w' none):=af (fun W=>by
    rw[hAL,hBR]
    exact qv _ _ r[q] l[p] W)
   have HM:Hid (kK (i9 wt) (l.drop p) (r.drop q)=if i9 wt r[q] l[p] then r[q]::kK (i9 wt) (l.drop p) (r.drop (q+1)) else l[p]::kK (i9 wt) (l.drop (p+1)) (r.drop q)):=af (by
    rw[List.drop_eq_getElem_cons hpl,List.drop_eq_getElem_cons hqr,kK])
   obtain⟨ok,hok⟩:∃ ok,ok=i9 wt r[q] l[p]:=⟨_,rfl⟩
   rw[←hok] at HAH HM
   have HNR:Hid (ok=true→(out++[r[q]])++kK (i9 wt) (l.drop p) (r.drop (q+1))=kK (i9 wt) l r):=af (fun e=>by
    rw[←HOUT.out,HM.out,if_pos e]
    simp)
   have HNL:Hid (ok=false→(out++[l[p]])++kK (i9 wt) (l.drop (p+1)) (r.drop q)=kK (i9 wt) l r):=af (fun e=>by
    rw[←HOUT.out,HM.out,if_neg (by simp[e])]
    simp)
   have HWR:Hid (∀ (w3:World) (v':Value),w3.ownsRow w.heap.size 176 24 v' (out.length+1) (cD wt out++BR)→w3.ownsRow w.heap.size 176 24 v' (out++[r[q]]).length (cD wt (out++[r[q]]))):=af (fun w3 v' h=>by
    rw[jT,pF,List.length_append,←hBR]
    exact h)
   have HWL:Hid (∀ (w3:World) (v':Value),w3.ownsRow w.heap.size 176 24 v' (out.length+1) (cD wt out++AL)→w3.ownsRow w.heap.size 176 24 v' (out++[l[p]]).length (cD wt (out++[l[p]]))):=af (fun w3 v' h=>by
    rw[jT,pF,List.length_append,←hAL]
    exact h)
   obtain⟨nl,hnl⟩:∃ nl,nl=out.length:=⟨_,rfl⟩
   obtain⟨xs,hxs⟩:∃ xs,xs=cD wt out:=⟨_,rfl⟩
   rw[←hnl] at HOWG HOW HLT HWR HWL hol ⊢
   rw[←hxs] at HOWG HOW HWR HWL
   have HNLN:=af hnl
   have HOL:=af hol
   have hnb:nl≤4320000:=by omega
   clear hol
   have p1:(p:Int)<(l.length:Int):=by omega
   have q1:(q:Int)<(r.length:Int):=by omega
   have p0:(0:Int)≤(p:Int):=by omega
   have q0:(0:Int)≤(q:Int):=by omega
   clear hnl hxs hok hAL hBR hown hg hout HM HOUT
   go_wp2_with fail
   refine wp_region_held_drew (S:=fun W=>W.rangeAt gr (og+q*24) BR∧W.rangeAt gl (ol+p*24) AL) (by kernel_rfl) ⟨HRBR.out,HRAL.out⟩ (fun hHeld=>?_)
   refine wpAnyH_take (i:=0) (v:=.slice (some ⟨gr,og,none⟩) r.length cr) rfl (by kernel_rfl) (by kernel_rfl) (by kernel_rfl) (fun _ _ _ h=>h) (Or.inl ⟨by rfl,?_⟩) hHeld ?_
   ·intro W hSw
    go_simp
   refine wpAnyH_take (i:=1) (v:=.int .i64 q) rfl (by kernel_rfl) (by kernel_rfl) (by kernel_rfl) (fun _ _ _ h=>h) (Or.inl ⟨by rfl,?_⟩) hHeld ?_
   ·intro W hSw
    go_simp
   refine wpAnyH_take (i:=2) (v:=.pointer (some ⟨gr,og+q*24,none⟩)) rfl (by kernel_rfl) (by kernel_rfl) (by kernel_rfl) (fun _ _ _ h=>h) (Or.inl ⟨by rfl,?_⟩) hHeld ?_
   ·intro W hSw
    go_simp
   refine wpAnyH_take (i:=3) (v:=.agg BR.toArray) rfl (by kernel_rfl) (by kernel_rfl) (by kernel_rfl) (fun _ _ _ h=>h) (yieldsIf_load_mid (by rfl) 176 _ rfl gr (og+q*24) rfl BR _ (fun W hSw=>hSw.1) Tryz.underlying176 rfl HIBR.out) hHeld ?_
   refine wpAnyH_take (i:=4) (v:=.slice (some ⟨gl,ol,none⟩) l.length cl) rfl (by kernel_rfl) (by kernel_rfl) (by kernel_rfl) (fun _ _ _ h=>h) (Or.inl ⟨by rfl,?_⟩) hHeld ?_
   ·intro W hSw
    go_simp
   refine wpAnyH_take (i:=5) (v:=.int .i64 p) rfl (by kernel_rfl) (by kernel_rfl) (by kernel_rfl) (fun _ _ _ h=>h) (Or.inl ⟨by rfl,?_⟩) hHeld ?_
   ·intro W hSw
    go_simp
   refine wpAnyH_take (i:=6) (v:=.pointer (some ⟨gl,ol+p*24,none⟩)) rfl (by kernel_rfl) (by kernel_rfl) (by kernel_rfl) (fun _ _ _ h=>h) (Or.inl ⟨by rfl,?_⟩) hHeld ?_
   ·intro W hSw
    go_simp
   refine wpAnyH_take (i:=7) (v:=.agg AL.toArray) rfl (by kernel_rfl) (by kernel_rfl) (by kernel_rfl) (fun _ _ _ h=>h) (yieldsIf_load_mid (by rfl) 176 _ rfl gl (ol+p*24) rfl AL _ (fun W hSw=>hSw.2) Tryz.underlying176 rfl HIAL.out) hHeld ?_
   refine wpAnyH_ready (rs:=[8]) (by kernel_rfl) (by simp) ?_
   refine AllReadyH.cons (o:=_) rfl (fun K hK=>?_) AllReadyH.nil
   go_simp
   go_at_call 114
   refine (HAH.out _).mono ?_
   rintro e w1 ⟨rfl,hg1⟩
   have HG1:Hid (wr.grownBy w1 none):=af (cF (n:=1) hg1)
   have HRAL1:Hid (w1.rangeAt gl (ol+p*24) AL):=af (di HRAL.out HG1.out)
   have HRBR1:Hid (w1.rangeAt gr (og+q*24) BR):=af (di HRBR.out HG1.out)
   have hs1:=HG1.out.size
   clear hg1 HAH
   go_wp2_with fail
   refine hK.out _ _ ⟨HRBR1.out,HRAL1.out⟩ (fun hHeld2=>?_)
   clear hK K
   refine wpAnyH_done (by kernel_rfl) ?_ _
   clear hHeld hHeld2
   have how1BR:=HOWG.out _ (ab HG1.out (.cells BR.toArray 176))
   have how1AL:=HOWG.out _ (ab HG1.out (.cells AL.toArray 176))
   cases ok with
   |true=>
    go_wp2_with (first
     |(refine wpList_load_mid rfl 176 (.tmp 30) rfl gr (og+q*24) rfl BR _ HRBR1.out Tryz.underlying176 rfl HIBR.out ?_)
     |(refine br rfl 125 176 (.tmp 31) rfl _ BR rfl Tryz.underlying125 HZBR.out (by omega) (by omega) ?_)
     |(at_builtin;refine wpList_append_own _ rfl (.tmp 27) (.tmp 32) 125 rfl (w.heap.size) 176 i0 (.agg #[.int .i64 0,.int .i64 0,.int .i64 0,.int .i64 0,.int .i64 0,.int .i64 0,.int .i64 0,.int .i64 0,.int .i64 0,.int .i64 0,.int .i64 0,.int .i64 0,.int .i64 0,.int .i64 0,.int .i64 0,.int .i64 0,.bool false,.bool false,.bool false,.bool false,.int .i64 0,.int .i64 0,.int .i64 0,.int .i64 0]) 24 168 Tryz.underlying125 hi0 hz0 hz1 hz2 rfl (by decide) _ _ _ rfl how1BR _ 1 1 BR rfl (by omega) (fun j u hj=>bj hj) HOBR.out (by unfold maxLen;omega) (by omega) (by simp;omega) ?_))
    intro v' w3 hown3 hg3 _
    have HO3:=af hown3
    have HG3:Hid (w.grownBy w3 none):=af (aL (ae HG.out (ab HG1.out _)) hg3 HLT.out)
    clear hown3 hg3
    go_wp2_with fail
    go_roundw
    case rel=>exact⟨p,q+1,_,by omega,by omega,rfl,by go_num,HNR.out (by first|rfl|trivial),by rw[List.length_append,←HNLN.out,HOL.out];simp;omega,HWR.out _ _ HO3.out,HG3.out⟩
    case measure=>simp[intOf];omega
   |false=>
    go_wp2_with (first
     |(refine wpList_load_mid rfl 176 (.tmp 39) rfl gl (ol+p*24) rfl AL _ HRAL1.out Tryz.underlying176 rfl HIAL.out ?_)
     |(refine br rfl 125 176 (.tmp 40) rfl _ AL rfl Tryz.underlying125 HZAL.out (by omega) (by omega) ?_)
     |(at_builtin;refine wpList_append_own _ rfl (.tmp 36) (.tmp 41) 125 rfl (w.heap.size) 176 i0 (.agg #[.int .i64 0,.int .i64 0,.int .i64 0,.int .i64 0,.int .i64 0,.int .i64 0,.int .i64 0,.int .i64 0,.int .i64 0,.int .i64 0,.int .i64 0,.int .i64 0,.int .i64 0,.int .i64 0,.int .i64 0,.int .i64 0,.bool false,.bool false,.bool false,.bool false,.int .i64 0,.int .i64 0,.int .i64 0,.int .i64 0]) 24 168 Tryz.underlying125 hi0 hz0 hz1 hz2 rfl (by decide) _ _ _ rfl how1AL _ 1 1 AL rfl (by omega) (fun j u hj=>bj hj) HOAL.out (by unfold maxLen;omega) (by omega) (by simp;omega) ?_))
    intro v' w3 hown3 hg3 _
    have HO3:=af hown3
    have HG3:Hid (w.grownBy w3 none):=af (aL (ae HG.out (ab HG1.out _)) hg3 HLT.out)
    clear hown3 hg3
    go_wp2_with fail
    go_roundw
    case rel=>exact⟨p+1,q,_,by omega,by omega,by go_num,rfl,HNL.out (by first|rfl|trivial),by rw[List.length_append,←HNLN.out,HOL.out];simp;omega,HWL.out _ _ HO3.out,HG3.out⟩
    case measure=>simp[intOf];omega
  ·have HEND:Hid (out++l.drop p++r.drop q=kK (i9 wt) l r):=af (by
    rw[←HOUT.out]
    by_cases h1:p<l.length
    ·have h2:q=r.length:=by
      by_cases h3:q<r.length
      ·exact absurd ⟨h1,h3⟩ hboth
      ·omega
     subst h2
     rw[List.drop_length,pa]
     simp
    ·have h2:p=l.length:=by omega
     subst h2
     rw[List.drop_length]
     simp[kK])
   obtain⟨A1,hA1,hn1⟩:=tf wt (di HL.out hg) hcl hp
   obtain⟨A2,hA2,_⟩:=tf wt HR.out hcr hq
   have HTR:Hid (∀ W,w.grownBy W none→∀ j u,(cD wt (r.drop q))[j]?=some u→W.cell? (A2.add j)=some u):=af (fun W hW=>by
    obtain⟨A3,hA3,hn3⟩:=tf wt (di HR.out hW) hcr hq
    have:A3=A2:=by
     rw[hA2] at hA3
     exact (Option.some.inj hA3).symm
    rw[this] at hn3
    exact hn3)
   have HN1:=af hn1
   have HA1:=af hA1
   have HA2:=af hA2
   have hdl1:(cD wt (l.drop p)).length=(l.length - p)*24:=by rw[lf];simp
   have hdl2:(cD wt (r.drop q)).length=(r.length - q)*24:=by rw[lf];simp
   have HO1:=af (sd wt (l.drop p))
   have HO2:=af (sd wt (r.drop q))
   have HII:Hid ((Tryz.prog.info? 176).map (·.size)=some 24):=af bE
   have HFIN:Hid (∀ (w4:World) (v:Value),w4.ownsRow w.heap.size 176 24 v (out.length+(l.length - p)+(r.length - q)) (cD wt out++(cD wt (l.drop p)++cD wt (r.drop q)))→w4.ownsRow w.heap.size 176 24 v (kK (i9 wt) l r).length (cD wt (kK (i9 wt) l r))):=af (fun w4 v h=>by
    rw[←HEND.out,jT,jT,List.length_append,List.length_append,List.length_drop,List.length_drop,List.append_assoc]
    exact h)
   obtain⟨X1,hX1⟩:∃ X1,X1=cD wt (l.drop p):=⟨_,rfl⟩
   obtain⟨X2,hX2⟩:∃ X2,X2=cD wt (r.drop q):=⟨_,rfl⟩
   rw[←hX1] at HN1 hdl1 HO1 HFIN
   rw[←hX2] at HTR hdl2 HO2 HFIN
   have p0:(0:Int)≤(p:Int):=by omega
   have q0:(0:Int)≤(q:Int):=by omega
   obtain⟨nl,hnl⟩:∃ nl,nl=out.length:=⟨_,rfl⟩
   obtain⟨xs,hxs⟩:∃ xs,xs=cD wt out:=⟨_,rfl⟩
   rw[←hnl] at HOWG HOW HLT HFIN hol ⊢
   rw[←hxs] at HOWG HOW HFIN
   have hnb:nl≤4320000:=by omega
   have how0:=HOW.out
   clear hnl hxs hol
   clear hX1 hX2 hown hg hout hA1 hA2 hn1 HOUT HEND
   by_cases hpl:p<l.length
   all_goals
    have hpd:decide ((p:Int)<(l.length:Int))=decide (p<l.length):=by simp
    have hqd:decide ((q:Int)<(r.length:Int))=decide (q<r.length):=by simp
   ·have hqn:decide ((q:Int)<(r.length:Int))=false:=by
     rw[hqd]
     simp only[decide_eq_false_iff_not]
     intro h3
     exact hboth ⟨hpl,h3⟩
    have hpy:(p:Int)<(l.length:Int):=by omega
    clear hpd hqd
    go_wp2_with (first
     |(refine dW rfl 125 176 (.tmp 46) (.tmp 47) rfl _ _ _ p 24 rfl rfl (by omega) Tryz.underlying125 HII.out ?_;rw[HA1.out])
     |(at_builtin;refine wpList_append_own _ rfl (.tmp 45) (.tmp 48) 125 rfl (w.heap.size) 176 i0 (.agg #[.int .i64 0,.int .i64 0,.int .i64 0,.int .i64 0,.int .i64 0,.int .i64 0,.int .i64 0,.int .i64 0,.int .i64 0,.int .i64 0,.int .i64 0,.int .i64 0,.int .i64 0,.int .i64 0,.int .i64 0,.int .i64 0,.bool false,.bool false,.bool false,.bool false,.int .i64 0,.int .i64 0,.int .i64 0,.int .i64 0]) 24 168 Tryz.underlying125 hi0 hz0 hz1 hz2 rfl (by decide) _ _ _ rfl how0 A1 (l.length - p) _ X1 rfl hdl1 HN1.out HO1.out (by unfold maxLen;omega) (by omega) (by omega) ?_))
    intro v1 w3 hown3 hg3 _
    have HG3:Hid (w.grownBy w3 none):=af (aL HG.out hg3 HLT.out)
    have hs3:=HG3.out.size
    have HLT3:=af (fun g hg=>(hown3.lt g hg).1)
    clear hg3
    go_wp2_with (first
     |(refine dW rfl 125 176 (.tmp 51) (.tmp 52) rfl _ _ _ q 24 rfl rfl (by omega) Tryz.underlying125 HII.out ?_;rw[HA2.out])
     |(at_builtin;refine wpList_append_own _ rfl (.tmp 50) (.tmp 53) 125 rfl (w.heap.size) 176 i0 (.agg #[.int .i64 0,.int .i64 0,.int .i64 0,.int .i64 0,.int .i64 0,.int .i64 0,.int .i64 0,.int .i64 0,.int .i64 0,.int .i64 0,.int .i64 0,.int .i64 0,.int .i64 0,.int .i64 0,.int .i64 0,.int .i64 0,.bool false,.bool false,.bool false,.bool false,.int .i64 0,.int .i64 0,.int .i64 0,.int .i64 0]) 24 168 Tryz.underlying125 hi0 hz0 hz1 hz2 rfl (by decide) _ _ _ rfl hown3 A2 (r.length - q) _ X2 rfl hdl2 (HTR.out _ HG3.out) HO2.out (by unfold maxLen;omega) (by omega) (by omega) ?_))
    intro v2 w4 hown4 hg4 _
    have HO4:=af (HFIN.out _ _ hown4)
    have HG4:Hid (w.grownBy w4 none):=af (aL HG3.out hg4 HLT3.out)
    clear hown3 hown4 hg4
    go_wp2_with fail
    go_ret
    exact⟨_,rfl,HO4.out,HG4.out⟩
   ·have hpn:decide ((p:Int)<(l.length:Int))=false:=by
     rw[hpd]
     simpa using hpl
    clear hpd hqd
    go_wp2_with (first
     |(refine dW rfl 125 176 (.tmp 46) (.tmp 47) rfl _ _ _ p 24 rfl rfl (by omega) Tryz.underlying125 HII.out ?_;rw[HA1.out])
     |(at_builtin;refine wpList_append_own _ rfl (.tmp 45) (.tmp 48) 125 rfl (w.heap.size) 176 i0 (.agg #[.int .i64 0,.int .i64 0,.int .i64 0,.int .i64 0,.int .i64 0,.int .i64 0,.int .i64 0,.int .i64 0,.int .i64 0,.int .i64 0,.int .i64 0,.int .i64 0,.int .i64 0,.int .i64 0,.int .i64 0,.int .i64 0,.bool false,.bool false,.bool false,.bool false,.int .i64 0,.int .i64 0,.int .i64 0,.int .i64 0]) 24 168 Tryz.underlying125 hi0 hz0 hz1 hz2 rfl (by decide) _ _ _ rfl how0 A1 (l.length - p) _ X1 rfl hdl1 HN1.out HO1.out (by unfold maxLen;omega) (by omega) (by omega) ?_))
    intro v1 w3 hown3 hg3 _
    have HG3:Hid (w.grownBy w3 none):=af (aL HG.out hg3 HLT.out)
    have hs3:=HG3.out.size
    have HLT3:=af (fun g hg=>(hown3.lt g hg).1)
    clear hg3
    go_wp2_with (first
     |(refine dW rfl 125 176 (.tmp 51) (.tmp 52) rfl _ _ _ q 24 rfl rfl (by omega) Tryz.underlying125 HII.out ?_;rw[HA2.out])
     |(at_builtin;refine wpList_append_own _ rfl (.tmp 50) (.tmp 53) 125 rfl (w.heap.size) 176 i0 (.agg #[.int .i64 0,.int .i64 0,.int .i64 0,.int .i64 0,.int .i64 0,.int .i64 0,.int .i64 0,.int .i64 0,.int .i64 0,.int .i64 0,.int .i64 0,.int .i64 0,.int .i64 0,.int .i64 0,.int .i64 0,.int .i64 0,.bool false,.bool false,.bool false,.bool false,.int .i64 0,.int .i64 0,.int .i64 0,.int .i64 0]) 24 168 Tryz.underlying125 hi0 hz0 hz1 hz2 rfl (by decide) _ _ _ rfl hown3 A2 (r.length - q) _ X2 rfl hdl2 (HTR.out _ HG3.out) HO2.out (by unfold maxLen;omega) (by omega) (by omega) ?_))
    intro v2 w4 hown4 hg4 _
    have HO4:=af (HFIN.out _ _ hown4)
    have HG4:Hid (w.grownBy w4 none):=af (aL HG3.out hg4 HLT3.out)
    clear hown3 hown4 hg4
    go_wp2_with fail
    go_ret
    exact⟨_,rfl,HO4.out,HG4.out⟩
theorem pA {P:Program}(w:World)(t e:TypeId)(ad:Option Addr)(n c i sz:Nat)(hu:P.underlying t=some (.slice e))(hi:(P.info? e).map (·.size)=some sz)(h1:i≤c):
  (Instr.sliceAt t (.slice ad n c) none (some (.int .i64 i)) none).run P w=.ok (.slice ad i c) w:=by
 cases hq:P.info? e with
 |none=>simp[hq] at hi
 |some d=>
  have g2:ad.map (fun x=>x.add 0)=ad:=by cases ad <;> simp[Addr.add]
  simp[Instr.sliceAt,Instr.slice,Instr.sliceBounds,Instr.sliceBound,underlying,sizeOf,typeInfo,hu,hq,asIntOf,g2]
  intro h
  omega
theorem mZ {P:Program}{ops:Array Oper}{rest:List Oper}{op:Oper}{a:Act}{w:World}{Q:Exit→Act→World→Prop}(hgd:op.guard=none)(t e:TypeId)(x y:Operand)(ho:op.op=.slice t x none (some y) none)
  (ad:Option Addr) (n c i sz:Nat) (hx:a.eval x=.slice ad n c) (hy:a.eval y=.int .i64 i) (h1:i≤c) (hu:P.underlying t=some (.slice e)) (hi:(P.info? e).map (·.size)=some sz)
  (h:wpList P ops Q rest (a.put op.dst (.slice ad i c)) w):wpList P ops Q (op::rest) a w:=
 wpList_plain hgd fun _ hK=>by
  unfold Oper.wp execOp
  have:=pA (P:=P) w t e ad n c i sz hu hi h1
  simp only[ho,hx,hy,Option.map_some,Option.map_none,Sem.run_bind,Sem.run_pure,this,Result.andThen_ok]
  exact hK _ _ h
theorem vh (wt:Nat→Int):xl (i9 wt):=by
 refine⟨fun {a b c} h1 h2=>?_,fun {a b c} h1 h2=>?_,fun a=>?_⟩
 ·unfold i9 Ch at*
  split at h1 <;> split at h2 <;> split <;> simp only[decide_eq_true_eq] at*<;> omega
 ·unfold i9 Ch at*
  split at h1 <;> split at h2 <;> split <;> simp only[decide_eq_false_iff_not] at*<;> omega
 ·unfold i9 Ch
  simp
theorem s6 (wt:Nat→Int):∀ (n:Nat) (l:List In) (g o c:Nat) (w:World),l.length=n→n≤2160000→0<n→n≤c→g<w.heap.size→w.rangeAt g o (cD wt l)→
  Calls Tryz.prog 61 #[.slice (some ⟨g,o,none⟩) l.length c] w fun e w'=>∃ g' o' c',e=.returned (.slice (some ⟨g',o',none⟩) l.length c')∧l.length≤c'∧g'<w'.heap.size∧w'.rangeAt g' o' (cD wt (bL (i9 wt) l))∧w.grownBy w' none:=by
 intro n
 induction n using Nat.strongRecOn with
 |_ n ih=>
  intro l g o c w hln hn hn0 hc hgl hrg
  by_cases h2:n<2
  ·have hl1:l.length=1:=by omega
   obtain⟨x,rfl⟩:=List.length_eq_one_iff.mp hl1
   have HR:=af hrg
   have HE:Hid (bL (i9 wt) [x]=[x]):=af rfl
   have hc1:1≤c:=by omega
   clear ih hrg hl1 hln
   simp only[List.length_cons,List.length_nil,Nat.zero_add]
   go_enter Tryz.func61,Tryz.ntmps61
   go_wp2_with fail
   go_ret
   exact⟨g,o,c,rfl,hc1,hgl,by rw[HE.out];exact HR.out,ag _ _⟩
  ·obtain⟨hf,hhf⟩:∃ hf,hf=n / 2:=⟨_,rfl⟩
   have hf1:0<hf:=by omega
   have hf2:hf<n:=by omega
   have hL1:(l.take hf).length=hf:=by rw[List.length_take];omega
   have hL2:(l.drop hf).length=n - hf:=by rw[List.length_drop];omega
   have hsp:cD wt l=cD wt (l.take hf)++cD wt (l.drop hf):=by rw[←jT,List.take_append_drop]
   have hr1:w.rangeAt g o (cD wt (l.take hf)):=fun j v hv=>hrg j v (by
    rw[hsp,List.getElem?_append_left (List.getElem?_eq_some_iff.1 hv).1]
    exact hv)
   have hr2:w.rangeAt g (o+hf*24) (cD wt (l.drop hf)):=fun j v hv=>by
    have:=hrg (hf*24+j) v (by
     rw[hsp,List.getElem?_append_right (by rw[lf,hL1];omega),lf,hL1,show hf*24+j - hf*24=j by omega]
     exact hv)
    rw[←Nat.add_assoc] at this
    exact this
   have H1:Hid (Calls Tryz.prog 61 #[.slice (some ⟨g,o,none⟩) hf c] w fun e w'=>∃ g' o' c',e=.returned (.slice (some ⟨g',o',none⟩) hf c')∧hf≤c'∧g'<w'.heap.size∧w'.rangeAt g' o' (cD wt (bL (i9 wt) (l.take hf)))∧w.grownBy w' none):=af (by
    have:=ih hf hf2 (l.take hf) g o c w hL1 (by omega) hf1 (by omega) hgl hr1
    rw[hL1] at this
    exact this)
   have H2:Hid (∀ W,w.grownBy W none→Calls Tryz.prog 61 #[.slice (some ⟨g,o+hf*24,none⟩) (n - hf) (c - hf)] W fun e w'=>∃ g' o' c',e=.returned (.slice (some ⟨g',o',none⟩) (n - hf) c')∧n - hf≤c'∧g'<w'.heap.size∧w'.rangeAt g' o' (cD wt (bL (i9 wt) (l.drop hf)))∧W.grownBy w' none):=af (fun W hW=>by
    have:=ih (n - hf) (by omega) (l.drop hf) g (o+hf*24) (c - hf) W hL2 (by omega) (by omega) (by omega) (Nat.lt_of_lt_of_le hgl hW.size) (di hr2 hW)
    rw[hL2] at this
    exact this)
   have HM:Hid (∀ (g1 o1 c1 g2 o2 c2:Nat) (W:World),hf≤c1→n - hf≤c2→g1<W.heap.size→g2<W.heap.size→W.rangeAt g1 o1 (cD wt (bL (i9 wt) (l.take hf)))→W.rangeAt g2 o2 (cD wt (bL (i9 wt) (l.drop hf)))→Calls Tryz.prog 90 #[.slice (some ⟨g1,o1,none⟩) hf c1,.slice (some ⟨g2,o2,none⟩) (n - hf) c2] W fun e w'=>∃ v,e=.returned v∧w'.ownsRow W.heap.size 176 24 v n (cD wt (bL (i9 wt) l))∧W.grownBy w' none):=af (fun g1 o1 c1 g2 o2 c2 W a1 a2 a3 a4 a5 a6=>by
    have:=vy wt (bL (i9 wt) (l.take hf)) (bL (i9 wt) (l.drop hf)) g1 o1 c1 g2 o2 c2 W (by rw[dQ];omega) (by rw[dQ];omega) (by rw[dQ];omega) (by rw[dQ];omega) a3 a4 a5 a6
    rw[Ai (vh wt),List.take_append_drop,dQ,dQ,dQ,hL1,hL2,hln] at this
    exact this)
   have hq:Int.tdiv (n:Int) 2=(hf:Int):=by rw[Int.tdiv_eq_ediv_of_nonneg (by omega),hhf];omega
   have HII:Hid ((Tryz.prog.info? 176).map (·.size)=some 24):=af bE
   have HAD:Hid ((if c=hf then some (⟨g,o,none⟩:Addr) else (some (⟨g,o,none⟩:Addr)).map (·.add (hf*24)))=some ⟨g,o+hf*24,none⟩):=af (by
    rw[if_neg (by omega)]
    show some (Addr.add ⟨g,o,none⟩ (hf*24))=_
    unfold Addr.add
    rw[if_neg (by omega)])
   have HLN:=af hln
   rw[hln]
   clear ih hln hhf hL1 hL2 hsp hr1 hr2 hrg
   go_enter Tryz.func61,Tryz.ntmps61
   go_wp2_with (first
    |(refine mZ rfl 125 176 (.tmp 13) (.tmp 14) rfl _ _ _ hf 24 rfl rfl (by omega) Tryz.underlying125 HII.out ?_))
   go_at_call 61
   refine H1.out.mono ?_
   rintro e w1 ⟨g1,o1,c1,rfl,q1,q2,q3,q4⟩
   have HQ3:=af q3
   have HQ4:=af q4
   clear q3 q4
   go_wp2_with (first
    |(refine dW rfl 125 176 (.tmp 17) (.tmp 18) rfl _ _ _ hf 24 rfl rfl (by omega) Tryz.underlying125 HII.out ?_;rw[HAD.out]))
   go_at_call 61
   refine (H2.out _ HQ4.out).mono ?_
   rintro e w2 ⟨g2,o2,c2,rfl,s1,s2,s3,s4⟩
   have HS3:=af s3
   have HS4:=af s4
   have q5:g1<w2.heap.size:=by have:=s4.size;omega
   clear s3 s4
   go_wp2_with fail
   go_at_call 90
   refine (HM.out g1 o1 c1 g2 o2 c2 _ q1 s1 q5 s2 (di HQ3.out HS4.out) HS3.out).mono ?_
   rintro e w3 ⟨v,rfl,ho,hg3⟩
   obtain⟨va,vm,vc,rfl⟩:=an ho
   have em:=ar ho
   subst em
   have hcap:=sU ho
   obtain⟨g3,rfl,_,_,hgl3,hcell⟩:=aE ho (by omega)
   have HC:Hid (w3.rangeAt g3 0 (cD wt (bL (i9 wt) l))):=af (fun j v hv=>by rw[Nat.zero_add];exact hcell j v hv)
   have HG3:Hid (w.grownBy w3 none):=af (ae HQ4.out (ae HS4.out hg3))
   clear ho hg3 hcell
   go_wp2_with fail
   go_ret
   exact⟨g3,0,vc,rfl,hcap,hgl3,HC.out,HG3.out⟩
theorem rD (c:Nat)(a:Option Addr)(w:World):
  Calls Tryz.prog 61 #[.slice a 0 c] w fun e w'=>e=.returned (.slice a 0 c)∧w'=w:=by
 go_enter Tryz.func61,Tryz.ntmps61
 go_wp2_with fail
 go_ret
 exact⟨rfl,rfl⟩
theorem j4 (a b:ByteArray):Lib.strCells (a++b)=Lib.strCells a++Lib.strCells b:=by
 unfold Lib.strCells
 rw[ByteArray.data_append,Array.toList_append,List.map_append]
theorem sQ {n:Int}(h0:0≤n)(h1:n≤255):Lib.strCells (strOfNums [n])=[.int .u8 n]:=by
 have e:(UInt8.ofNat n.toNat).toNat=n.toNat:=by
  rw[UInt8.toNat_ofNat']
  omega
 simp[Lib.strCells,strOfNums,e]
 omega
theorem q9:Lib.strCells ⟨#[59]⟩=[.int .u8 59]:=rfl
theorem Tryz.infoB:(Tryz.prog.info? 5).map (fun i=>(i.zero,i.size,i.bytes))=some (some (.int .u8 0),1,1):=by kernel_rfl
theorem yk {w:World}{B:Nat}{v:Value}{s:ByteArray}(h:w.ownsRow B 5 1 v s.size (Lib.strCells s)):(convert 160 9 v).run Tryz.prog w=.ok (.string s) w:=by
 obtain⟨a,m,c,rfl⟩:=an h
 have em:=ar h
 subst em
 by_cases hz:s.size=0
 ·have hs:s=ByteArray.empty:=by
   have:s.data=#[]:=Array.eq_empty_of_size_eq_zero hz
   cases s
   simp only at this
   rw[this]
   rfl
  rw[run_convert_bytes_string w _ _ 5 a s.size c Tryz.underlying160 Tryz.underlying5 Tryz.underlying9,hz]
  cases a with
  |none=>rw[hs];rfl
  |some ad=>
   rw[hs]
   have:=run_bytesToString (P:=Tryz.prog) w ad 0 c [] (by simp[loadCells,loadCellsFrom])
   simpa using this
 ·obtain⟨g,rfl,_,_,_,hcell⟩:=aE h (by omega)
  have:=run_convert_bytes_back (P:=Tryz.prog) w 160 9 5 ⟨g,0,none⟩ c s.data.toList Tryz.underlying160 Tryz.underlying5 Tryz.underlying9 (fun j hj=>by
   have hadd:(⟨g,0,none⟩:Addr).add j=⟨g,j,none⟩:=by unfold Addr.add;split <;> simp_all
   rw[hadd]
   refine hcell j _ ?_
   unfold Lib.strCells
   rw[List.getElem?_map,List.getElem?_eq_getElem hj]
   rfl)
  have e1:s.data.toList.length=s.size:=by rw[Array.length_toList];rfl
  have e2:(⟨s.data.toList.toArray⟩:ByteArray)=s:=by cases s;simp
  rw[e1,e2] at this
  exact this
end Go.Proofs.YthlhbjnkohinmaaGreat
