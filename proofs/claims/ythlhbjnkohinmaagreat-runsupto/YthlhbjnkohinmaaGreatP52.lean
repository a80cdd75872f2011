import Derived.Test.YthlhbjnkohinmaaGreatP51
namespace Go.Proofs.YthlhbjnkohinmaaGreat
set_option maxRecDepth 100000
set_option maxHeartbeats 8000000
open Go.RowKit
structure lf (B:Nat) (w:World) (i:Nat) (wr:World) (Ps:List Pg) (f:List Nat):Prop where
 inv:ey B Ps wr f
 nodup:f.Nodup
 above:∀ g∈f,B≤g
 good:uZ i Ps
 few:Ps.length≤i
 below:Below B w wr
 room:B<wr.heap.size
theorem lf.quiet {B:Nat} {w:World} {i:Nat} {wr wr':World} {Ps:List Pg} {f:List Nat} (h:lf B w i wr Ps f) (hf:Fr [] wr wr'):lf B w i wr' Ps f:=
 ⟨ey.framed _ _ h.inv hf (by simp),h.nodup,h.above,h.good,h.few,h.below.trans (hf.below (Nat.le_of_lt h.room) (by simp)),Nat.lt_of_lt_of_le h.room hf.size⟩
theorem lf.next {B:Nat} {w:World} {i:Nat} {wr:World} {Ps:List Pg} {f:List Nat} (h:lf B w i wr Ps f):lf B w (i+1) wr Ps f:=
 ⟨h.inv,h.nodup,h.above,fun q hq=>(h.good q hq).mono (Nat.le_succ i),Nat.le_succ_of_le h.few,h.below,h.room⟩
theorem lf.step {B:Nat} {w:World} {i:Nat} {wr wr':World} {Ps:List Pg} {f:List Nat} (h:lf B w i wr Ps f) (ht:yN B i Ps.length f wr wr'):∃ Ps' f',lf B w (i+1) wr' Ps' f':=by
 obtain⟨Ps',⟨f',a,n,s,r⟩,hg,hl⟩:=ht
 have hroom:=h.room
 refine⟨Ps',f',a,n,fun g hg=>?_,hg,by have:=h.few;omega,h.below.trans (r.below (Nat.le_of_lt hroom) h.above),Nat.lt_of_lt_of_le hroom r.size⟩
 rcases s g hg with h1|h1
 ·exact h.above g h1
 ·omega
theorem Ay (last lo hi:Int) (w:World) (sb off len cap:Nat) (hsb:sb<w.heap.size) (hlen:len≤10000000) (hscr:∀ t,t<len→∃ k a b c s,Dl w sb (off+t*5) k a b c s) :
  Calls Tryz.prog 9 #[.slice (some ⟨sb,off,none⟩) len cap,.int .i64 last,.bool true,.int .i64 lo,.int .i64 hi] w fun e w'=>e=.returned (.int .i64 (-1))∧Below w.heap.size w w':=by
 have HS:=af hscr
 clear hscr
 go_enter Tryz.func9,Tryz.ntmps9
 go_wp2_with fail
 go_loopw [12] (fun t wr=>∃ (k:Nat) (Ps:List Pg) (f:List Nat),k≤len∧t=.int .i64 k∧lf w.heap.size w k wr Ps f) (fun t _=>len - (intOf t).toNat)
 case atStart=>
  refine⟨0,[],[w.heap.size],Nat.zero_le _,rfl,⟨⟨_,[],[],[],heap_alloc_new w _,bn.nil _ _ _,rfl,rfl⟩,by simp,by simp,by simp,by simp,(Below.refl _ w).alloc (Nat.le_refl _) _,by simp⟩⟩
 case round=>
  obtain⟨k,Ps,f,hk,rfl,hL⟩:=hrel
  have HL:=af hL
  clear hL
  by_cases hlt:k<len
  ·obtain⟨kk,aa,bb,cc,s,c0,c1,c2,c3,c4,a1,a2,hs⟩:=HS.out k hlt
   have hBe:=HL.out.below
   have hroom:=HL.out.room
   have d0:=(hBe.cell (p:=⟨sb,off+k*5,none⟩) hsb).trans c0
   have d1:=(hBe.cell (p:=⟨sb,off+k*5+1,none⟩) hsb).trans c1
   have d2:=(hBe.cell (p:=⟨sb,off+k*5+2,none⟩) hsb).trans c2
   have d3:=(hBe.cell (p:=⟨sb,off+k*5+3,none⟩) hsb).trans c3
   have d4:=(hBe.cell (p:=⟨sb,off+k*5+4,none⟩) hsb).trans c4
   clear c0 c1 c2 c3 c4 hBe
   have hsbz:sb≠wr.heap.size:=by omega
   have hwz:w.heap.size≠wr.heap.size:=by omega
   have hfl:∀ g∈f,g<wr.heap.size:=ey.within _ _ HL.out.inv
   have hzf:wr.heap.size∉f:=fun e=>by have:=hfl _ e;omega
   have HZF:=af hzf
   clear hfl hzf
   have HLATE:Hid (∀ (c':Int) W,Fr [] wr W→Calls Tryz.prog 11 #[.pointer (some ⟨w.heap.size,0,none⟩),ex kk aa bb c' s] W fun e w'=>(∃ bl,e=.returned (.bool bl))∧Fr [] W w'):=af (fun c' W hW=>by
    have hq:=HL.out.quiet hW
    have:=hq.few
    exact zC w.heap.size k Ps f kk aa bb c' s W hq.inv hq.nodup hq.good (by omega) (by omega) a1 a2)
   have HSTEP:Hid (∀ (c':Int) W,Fr [] wr W→Calls Tryz.prog 10 #[.pointer (some ⟨w.heap.size,0,none⟩),ex kk aa bb c' s] W fun e w'=>e=.returned (.bool true)∧(∃ Ps' f',lf w.heap.size w (k+1) w' Ps' f')∧Fr f W w'):=af (fun c' W hW=>by
    have hq:=HL.out.quiet hW
    have:=hq.few
    refine (Bg w.heap.size k Ps f kk aa bb c' s W hq.inv hq.nodup hq.good (by omega) (by omega) a1 a2 hs).mono ?_
    rintro e w' ⟨rfl,ht⟩
    refine⟨rfl,hq.step ht,?_⟩
    obtain⟨_,⟨_,_,_,_,r⟩,_⟩:=ht
    exact r)
   by_cases hk1:kk=1
   ·subst hk1
    go_wp2_with fail
    go_at_call 11
    refine (HLATE.out 999 _ (az wr _)).mono ?_
    rintro e w1 ⟨⟨bl,rfl⟩,hf1⟩
    have HF1:=af ((az wr (Fj 1 aa bb 999 s)).trans hf1)
    have e0:=aB hf1 (cd (w:=wr) (cs:=#[.int .i64 1,.int .i64 aa,.int .i64 bb,.int .i64 999,.string s]) (t:=30) (j:=0) rfl)
    have e1:=aB hf1 (cd (w:=wr) (cs:=#[.int .i64 1,.int .i64 aa,.int .i64 bb,.int .i64 999,.string s]) (t:=30) (j:=1) rfl)
    have e2:=aB hf1 (cd (w:=wr) (cs:=#[.int .i64 1,.int .i64 aa,.int .i64 bb,.int .i64 999,.string s]) (t:=30) (j:=2) rfl)
    have e3:=aB hf1 (cd (w:=wr) (cs:=#[.int .i64 1,.int .i64 aa,.int .i64 bb,.int .i64 999,.string s]) (t:=30) (j:=3) rfl)
    have e4:=aB hf1 (cd (w:=wr) (cs:=#[.int .i64 1,.int .i64 aa,.int .i64 bb,.int .i64 999,.string s]) (t:=30) (j:=4) rfl)
    clear d0 d1 d2 d3 d4 hf1 HLATE
    by_cases hgt:1>last
    ·go_wp2_with fail
     go_roundw
     case rel=>exact⟨k+1,Ps,f,by omega,by go_num,(HL.out.quiet HF1.out).next⟩
     case measure=>simp[intOf];omega
    ·cases bl with
     |true=>
      go_wp2_with fail
      go_roundw
      case rel=>exact⟨k+1,Ps,f,by omega,by go_num,(HL.out.quiet HF1.out).next⟩
      case measure=>simp[intOf];omega
     |false=>
      go_wp2_with fail
      go_at_call 10
      refine (HSTEP.out 999 _ HF1.out).mono ?_
      rintro e w2 ⟨rfl,hlp,hf2⟩
      have HLP:=af hlp
      have g0:=bC hf2 e0 HZF.out
      clear hlp hf2 e0 e1 e2 e3 e4 HSTEP
      go_wp2_with fail
      go_roundw
      case rel=>
       obtain⟨Ps',f',hl'⟩:=HLP.out
       exact⟨k+1,Ps',f',by omega,by go_num,hl'⟩
      case measure=>simp[intOf];omega
   ·have hk2:(kk==1)=false:=by simpa using hk1
    clear hk1
    go_wp2_with fail
    go_at_call 11
    refine (HLATE.out cc _ (az wr _)).mono ?_
    rintro e w1 ⟨⟨bl,rfl⟩,hf1⟩
    have HF1:=af ((az wr (Fj kk aa bb cc s)).trans hf1)
    have e0:=aB hf1 (cd (w:=wr) (cs:=#[.int .i64 kk,.int .i64 aa,.int .i64 bb,.int .i64 cc,.string s]) (t:=30) (j:=0) rfl)
    have e1:=aB hf1 (cd (w:=wr) (cs:=#[.int .i64 kk,.int .i64 aa,.int .i64 bb,.int .i64 cc,.string s]) (t:=30) (j:=1) rfl)
    have e2:=aB hf1 (cd (w:=wr) (cs:=#[.int .i64 kk,.int .i64 aa,.int .i64 bb,.int .i64 cc,.string s]) (t:=30) (j:=2) rfl)
    have e3:=aB hf1 (cd (w:=wr) (cs:=#[.int .i64 kk,.int .i64 aa,.int .i64 bb,.int .i64 cc,.string s]) (t:=30) (j:=3) rfl)
    have e4:=aB hf1 (cd (w:=wr) (cs:=#[.int .i64 kk,.int .i64 aa,.int .i64 bb,.int .i64 cc,.string s]) (t:=30) (j:=4) rfl)
    clear d0 d1 d2 d3 d4 hf1 HLATE
    by_cases hgt:kk>last
    ·go_wp2_with fail
     go_roundw
     case rel=>exact⟨k+1,Ps,f,by omega,by go_num,(HL.out.quiet HF1.out).next⟩
     case measure=>simp[intOf];omega
    ·cases bl with
     |true=>
      go_wp2_with fail
      go_roundw
      case rel=>exact⟨k+1,Ps,f,by omega,by go_num,(HL.out.quiet HF1.out).next⟩
      case measure=>simp[intOf];omega
     |false=>
      go_wp2_with fail
      go_at_call 10
      refine (HSTEP.out cc _ HF1.out).mono ?_
      rintro e w2 ⟨rfl,hlp,hf2⟩
      have HLP:=af hlp
      have g0:=bC hf2 e0 HZF.out
      clear hlp hf2 e0 e1 e2 e3 e4 HSTEP
      by_cases hlo:lo≤kk
      ·by_cases hhi:kk≤hi
       ·go_wp2_with fail
        go_roundw
        case rel=>
         obtain⟨Ps',f',hl'⟩:=HLP.out
         exact⟨k+1,Ps',f',by omega,by go_num,hl'⟩
        case measure=>simp[intOf];omega
       ·go_wp2_with fail
        go_roundw
        case rel=>
         obtain⟨Ps',f',hl'⟩:=HLP.out
         exact⟨k+1,Ps',f',by omega,by go_num,hl'⟩
        case measure=>simp[intOf];omega
      ·go_wp2_with fail
       go_roundw
       case rel=>
        obtain⟨Ps',f',hl'⟩:=HLP.out
        exact⟨k+1,Ps',f',by omega,by go_num,hl'⟩
       case measure=>simp[intOf];omega
  ·go_wp2
   go_ret
   exact⟨rfl,HL.out.below⟩
end Go.Proofs.YthlhbjnkohinmaaGreat
