import Derived.Test.YthlhbjnkohinmaaGreatP13
import Derived.Test.YthlhbjnkohinmaaGreatP21
namespace Go.Proofs.YthlhbjnkohinmaaGreat
set_option maxRecDepth 100000
set_option maxHeartbeats 8000000
open Go.RowKit
theorem zO (X:ap)(m:Nat):(cL X m).2.latest=X.latest∧(cL X m).2.ses=X.ses∧(cL X m).2.src=X.src∧∀ c,((cL X m).2.hist c).length≤(X.hist c).length:=by
 unfold cL
 split
 ·exact⟨rfl,rfl,rfl,fun _=>Nat.le_refl _⟩
 ·exact⟨rfl,rfl,rfl,fun c=>ug _ _⟩
theorem sX (x:Nat)(X:ap)(f:List Nat)(n:Int)(w:World)(h:aV x X w f)(hn:f.Nodup)(hlat:0≤X.latest∧X.latest<9223372036854775807)(hl:∀ c,c<60→((X.hist c).length+1)*24≤140737488355328)(hm:keptN X 60+60≤9223372036854775807):
  Calls Tryz.prog 29 #[.pointer (some ⟨x,0,none⟩),.int .i64 n] w fun e w'=>e=.returned (.tuple #[.int .i64 (bI X n).1.1,.int .i64 (bI X n).1.2])∧cO (aV x (bI X n).2) f w w':=by
 have HPA:=af h
 obtain⟨kv,hk0⟩:=h
 have HF:=af (eW x X n w hk0.1.ses)
 unfold bI
 cases hf:aM X n with
 |none=>
  rw[hf] at HF
  clear hf hk0
  go_enter Tryz.func29,Tryz.ntmps29
  go_wp2_with fail
  go_at_call 41
  refine HF.out.mono ?_
  rintro e w' ⟨rfl,rfl⟩
  simp only[dp]
  go_wp2
  go_ret2
  exact⟨rfl,cO.refl HPA.out hn (Fr.refl _ _)⟩
 |some k=>
  rw[hf] at HF
  have hk:k<8:=by
   unfold aM at hf
   split at hf
   ·cases hf
   ·exact (bx hf).1
  clear hf
  simp only[]
  have hP:=hk0.1
  have hS0:=hP.ses k hk
  obtain⟨S,hS⟩:∃ S,S=X.ses k:=⟨_,rfl⟩
  rw[←hS] at hS0 ⊢
  obtain⟨RES,hRES⟩:∃ RES:(Int×Int)×ap,RES=(if kH S then (if clash X S then ((0,10),X.setSes k .zero) else (if (cL X (cw S 60)).1 then ((X.latest+1,0),((cL X (cw S 60)).2.setSes k .zero).commit S) else ((0,11),(cL X (cw S 60)).2))) else ((0,0),X.setSes k .zero)):=⟨_,rfl⟩
  rw[←hRES]
  have HRES:=af hRES
  have HHW:=af (C7 x (3+k*244) S w hS0)
  have HWN:=af (fun W (hW:Fr [] w W)=>sK x (3+k*244) S W ((hP.fr hW (by simp)).ses k hk |> fun h=>by rw[←hS] at h;exact h))
  have hwn60:=qi S 60
  have HHR:=af (fun W (hW:Fr [] w W)=>vz x X f (cw S 60) W (aV.framed _ _ HPA.out hW (by simp)) hn hl (by omega))
  have HX1:=af (zO X (cw S 60))
  have HCON:Hid (∀ W,Fr [] w W→Calls Tryz.prog 54 #[.pointer (some ⟨x,1955,none⟩),.agg (aZ S.wr S.tm).toArray,.int .i64 S.snap] W fun e w''=>e=.returned (.bool (clash X S))∧W.grownBy w'' none):=af (fun W hW=>rB x 1955 X kv S W (hP.fr hW (by simp)).store)
  have HHL1:Hid (∀ c,c<60→(((cL X (cw S 60)).2.hist c).length+1)*24≤140737488355328):=af (fun c hc=>by have:=HX1.out.2.2.2 c;have:=hl c hc;omega)
  obtain⟨X1,hX1⟩:∃ X1,X1=(cL X (cw S 60)).2:=⟨_,rfl⟩
  obtain⟨rb,hrb⟩:∃ rb,rb=(cL X (cw S 60)).1:=⟨_,rfl⟩
  rw[←hX1,←hrb] at HRES HHR
  rw[←hX1] at HX1 HHL1
  have HL1:Hid (X1.latest=X.latest):=af HX1.out.1
  have HCOM:Hid (∀ W f',aV x X1 W f'→f'.Nodup→Calls Tryz.prog 57 #[.pointer (some ⟨x,1955,none⟩),.agg (aZ S.wr S.tm).toArray] W fun e w''=>e=.returned (.int .i64 (X.latest+1))∧cO (aV x (X1.commit S)) f' W w''):=af (fun W f' hW hf'=>by
   have:=uD x X1 S f' W hW hf' (by rw[HL1.out];exact hlat) HHL1.out
   rw[HL1.out] at this
   exact this)
  have HZ:Hid (∀ W,Fr [] w W→(storeCells ⟨x,3+k*244,none⟩ Tryz.zeroCells82.toList 0).run Tryz.prog W=.ok () (W.setCells x (3+k*244) Tryz.zeroCells82.toList)∧cO (aV x (X.setSes k .zero)) f w (W.setCells x (3+k*244) Tryz.zeroCells82.toList)):=af (fun W hW=>by
   obtain⟨a,b⟩:=DC hk (aV.framed _ _ HPA.out hW (by simp)) hn
   exact⟨a,b.before hW⟩)
  have HSE:Hid (∀ X' W f',X'.ses=X.ses→aV x X' W f'→W.rangeAt x (3+k*244+3) (aZ S.wr S.tm)):=af (fun X' W f' he hT=>by
   obtain⟨kv',a⟩:=hT
   have h1:=(a.1.ses k hk).writes
   rw[he,←hS] at h1
   exact h1)
  have HES:Hid (X1.ses=X.ses):=af HX1.out.2.1
  have HEC:Hid ((X1.commit S).ses=X.ses):=af HX1.out.2.1
  have hsn0:=hS0.snap
  have hrw0:=hS0.writes
  have hxl:=hP.lt
  clear hRES hk0 hP hS hS0 hlat hl hm hX1 hrb
  go_enter Tryz.func29,Tryz.ntmps29
  go_wp2_with fail
  go_at_call 41
  refine HF.out.mono ?_
  rintro e w' ⟨rfl,rfl⟩
  simp only[dp]
  go_wp2_with fail
  go_at_call 53
  refine HHW.out.mono ?_
  rintro e w3 ⟨rfl,rfl⟩
  cases hhw:kH S with
  |false=>
   have HRE:Hid (RES=((0,0),X.setSes k .zero)):=af (by rw[HRES.out,hhw];rfl)
   have hst:=(HZ.out _ (Fr.refl _ _)).1
   clear hhw
   go_wp2_with fail
   go_ret2
   rw[HRE.out]
   exact⟨rfl,(HZ.out _ (Fr.refl _ _)).2⟩
  |true=>
   have hu:=Tryz.underlying77
   have hlen2:=dX S.wr S.tm
   have hinf:(Tryz.prog.info? 77).map (·.size)=some (aZ S.wr S.tm).length:=Dg.trans (by rw[hlen2])
   have hR2:RES=if clash X S then ((0,10),X.setSes k .zero) else (if rb then ((X.latest+1,0),(X1.setSes k .zero).commit S) else ((0,11),X1)):=by rw[HRES.out,hhw];rfl
   have HR2:=af hR2
   obtain⟨sn,hsn'⟩:∃ sn,sn=S.snap:=⟨_,rfl⟩
   rw[←hsn'] at hsn0 HCON
   obtain⟨wl,hwl⟩:∃ wl,wl=aZ S.wr S.tm:=⟨_,rfl⟩
   rw[←hwl] at hrw0 HCON HCOM HSE hinf hlen2
   obtain⟨lt1,hlt1⟩:∃ lt1,lt1=X.latest+1:=⟨_,rfl⟩
   rw[←hlt1] at HCOM HR2
   obtain⟨cl,hcl⟩:∃ cl,cl=clash X S:=⟨_,rfl⟩
   rw[←hcl] at HCON HR2
   obtain⟨wn,hwn⟩:∃ wn,wn=cw S 60:=⟨_,rfl⟩
   rw[←hwn] at HWN HHR
   clear hhw hsn' hwl hlt1 hR2 hcl hwn
   go_wp2_with fail
   go_region_held3 (fun W=>W.rangeAt x (3+k*244+3) wl∧W.cell? ⟨x,3+k*244+1,none⟩=some (.int .i64 sn)) (first|(exact⟨t1,t2⟩)|(simp only[World.rangeAt_drew,World.cell?_drew];exact⟨hrw0,hsn0⟩)|go_keep) (first
    |(go_at_call 54
      refine (HCON.out _ (au (Fr.refl _ _))).mono ?_
      rintro e w4 ⟨rfl,hg4⟩
      have HG4:=af (aK hg4)
      have t1:w4.rangeAt x (3+k*244+3) wl:=fun j v hv=>am hg4 (hrw0 j v hv)
      have t2:=am hg4 hsn0
      clear hg4))
   cases cl with
   |true=>
    have hst:=(HZ.out _ ((au (Fr.refl _ _)).trans HG4.out)).1
    go_wp2_with fail
    go_ret2
    rw[show RES=((0,10),X.setSes k .zero) from HR2.out]
    exact⟨rfl,(HZ.out _ ((au (Fr.refl _ _)).trans HG4.out)).2⟩
   |false=>
    have HW4:=af ((au (Fr.refl [] w3)).trans HG4.out)
    go_wp2_with fail
    go_at_call 55
    refine (HWN.out _ HW4.out).mono ?_
    rintro e w4' ⟨rfl,rfl⟩
    go_wp2_with fail
    go_at_call 56
    refine (HHR.out _ HW4.out).mono ?_
    rintro e w5 ⟨rfl,ht5⟩
    have HT5:=af ht5
    obtain⟨f5,a5,n5,s5,r5⟩:=ht5
    have t5:w5.rangeAt x (3+k*244+3) wl:=HSE.out X1 w5 f5 HES.out a5
    have HA5:=af a5
    have HS5:=af s5
    have HR5:=af r5
    clear t1 t2 a5 s5 r5
    cases rb with
    |false=>
     go_wp2_with fail
     go_ret2
     rw[show RES=((0,11),X1) from HR2.out]
     exact⟨rfl,HT5.out.before HW4.out⟩
    |true=>
     have HC5:Hid (∀ W,Fr [] w5 W→Calls Tryz.prog 57 #[.pointer (some ⟨x,1955,none⟩),.agg wl.toArray] W fun e w''=>e=.returned (.int .i64 lt1)∧cO (aV x (X1.commit S)) f5 W w''):=af (fun W hW=>HCOM.out W f5 (aV.framed _ _ HA5.out hW (by simp)) n5)
     go_wp2_with fail
     go_region_held3 (fun W=>W.rangeAt x (3+k*244+3) wl) (first|(exact t3)|(simp only[World.rangeAt_drew];exact t5)|go_keep) (first
      |(go_at_call 57
        refine (HC5.out _ (au (Fr.refl _ _))).mono ?_
        rintro e w6 ⟨rfl,ht6⟩
        have HT6:=af ht6
        obtain⟨f6,a6,n6,_,_⟩:=ht6
        have t3:=HSE.out (X1.commit S) w6 f6 HEC.out a6
        have HST:=af (DC hk a6 n6).1
        clear a6))
     have hst:=HST.out
     go_wp2_with fail
     go_ret2
     rw[show RES=((lt1,0),(X1.setSes k .zero).commit S) from HR2.out]
     exact⟨rfl,((HT6.out.then (fun f' a n=>(DC hk a n).2)).before (au (Fr.refl _ _)) |> fun h=>cO.comp HS5.out HR5.out h).before HW4.out⟩
end Go.Proofs.YthlhbjnkohinmaaGreat
