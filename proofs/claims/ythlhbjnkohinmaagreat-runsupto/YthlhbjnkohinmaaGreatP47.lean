import Derived.Test.YthlhbjnkohinmaaGreatP11
import Derived.Test.YthlhbjnkohinmaaGreatP27
import Derived.Test.YthlhbjnkohinmaaGreatP23
import Derived.Test.YthlhbjnkohinmaaGreatP12
import Derived.Deep.AppendLies
import Derived.Test.YthlhbjnkohinmaaGreatP13
import Derived.Test.YthlhbjnkohinmaaGreatP28
import Derived.Test.YthlhbjnkohinmaaGreatP35
import Derived.Test.YthlhbjnkohinmaaGreatP20
import Derived.Test.YthlhbjnkohinmaaGreatP33
namespace Go.Proofs.YthlhbjnkohinmaaGreat
set_option maxRecDepth 100000
set_option maxHeartbeats 8000000
open Go.RowKit
theorem bJ.within {Q:Value→eZ}(hQ:∀ v,bV (Q v))(y:Nat)(E:bn):bV (bJ Q y E):=by
 rintro w f ⟨rv,cv,kv,ov,cs,ps,h⟩
 exact bZ.within (e8.within _ _ _) (bZ.within (hQ rv) (bZ.within (bp.within _ _ _ _ _) (bZ.within (aB.within (fun _ _=>bp.within _ _ _ _ _) _ _) (bZ.within (bp.within _ _ _ _ _) (bZ.within (bp.within _ _ _ _ _) (aB.within eC.within _ _)))))) h
theorem sD (X:ap):(a8 X).2.src=X.src:=by unfold a8;cases ba X 0 <;> rfl
theorem uX (X:ap)(n:Int)(s:ByteArray):(cq X n s).2.src=X.src:=by
 unfold cq
 cases aM X n with
 |none=>rfl
 |some k=>cases eR s <;> rfl
theorem qD (X:ap)(n:Int)(s:ByteArray):(aX X n s).2.src=X.src:=by
 unfold aX
 cases aM X n with
 |none=>rfl
 |some k=>cases eE s <;> rfl
theorem pl (X:ap)(n:Int):(aY X n).2.src=X.src:=by
 unfold aY
 cases aM X n <;> rfl
abbrev eA (k a b c:Int)(s:ByteArray):Value:=.agg #[.int .i64 k,.int .i64 a,.int .i64 b,.int .i64 c,.string s]
abbrev Fs (k a b c:Int)(s:ByteArray):Obj:=.cells #[.int .i64 k,.int .i64 a,.int .i64 b,.int .i64 c,.string s] 30
def E0 (room:Int):bn:=⟨room,[],[],[],0⟩
def mX (a:Int)(n:Nat):Nat:=(mS a n).toNat
theorem uW (a:Int){n:Nat}(h:0<n):mX a n<n:=by
 have:=uq a n (by omega)
 unfold mX
 omega
theorem vI (a:Int){n:Nat}(h:0<n):((mX a n:Nat):Int)=mS a n:=by
 have:=uq a n (by omega)
 unfold mX
 omega
open Go.ChangeShapes Go.WideShapes Go.ChangeAt Go.RowKit Go.Deep
theorem A6 (w:World)(a:Option Addr)(cap:Nat)(last lo hi:Int):
  Calls Tryz.prog 9 #[.slice a 0 cap,.int .i64 last,.bool true,.int .i64 lo,.int .i64 hi] w fun e w'=>e=.returned (.int .i64 (-1))∧Below w.heap.size w w':=by
 go_enter Tryz.func9,Tryz.ntmps9
 go_wp2_with fail
 refine wp_loop_rounds 1 ?_
 rw[rounds_succ]
 go_wp2
 go_ret
 exact⟨rfl,(Below.refl _ w).alloc (Nat.le_refl _) _⟩
open Go.RowKit
structure yw (s:ByteArray)(R:List ay):Prop where
 size:s.size≤400
 nine:R.length≤9
 ok:∀ r∈R,fX s r
 walk:∀ r∈R,l7 s r
 five:∀ k (h:k<R.length),R[k].2.1.length≤5
 bound:∀ r∈R,ce s r.2.1 (fun _=>false)≠none
theorem yj {s:ByteArray}{R:List ay}(h:cC s 0 0 (some R)):yw s R:=by
 rcases h with ⟨_,h,_,_⟩|⟨_,_,_,_,h,_⟩|⟨_,_,_,_,_,_,h,_⟩|⟨_,_,_,_,_,_,_,h,_⟩|⟨R',j,h1,h2,h3,h4,_,_,h5⟩
 ·cases h
 ·cases h
 ·cases h
 ·cases h
 ·cases h5
  have hok:=(tQ h2 rfl).2
  have hl:R.length≤9:=by
   by_cases hh:R.length≤9
   ·exact hh
   ·have:=(mu h3 9 (by omega)).2.2
    omega
  refine⟨h1,hl,hok,fun r hr=>?_,fun k hk=>(mu h3 k hk).1,fun r hr=>?_⟩
  ·obtain⟨k,hk,e⟩:=List.getElem_of_mem hr
   have h6:=h3 k hk
   have h7:=(mu h3 k hk).1
   rw[e] at h7
   refine⟨lG (hok r hr).conds rfl,?_,by omega⟩
   by_cases hp:bM s r.2.1≤3
   ·exact hp
   ·refine absurd ⟨hk,.inr ?_⟩ h6
    rw[e]
    unfold ip
    simp
    omega
  ·obtain⟨k,hk,e⟩:=List.getElem_of_mem hr
   intro hb
   refine absurd ⟨hk,?_⟩ (h4 k hk)
   rw[e]
   unfold l9
   rw[hb]
theorem A9 (X:ap)(k:Nat):pP (fO X k):=by
 unfold pP fO dk
 refine List.Pairwise.filterMap _ (R:=fun a b:Nat=>a<b) ?_ List.pairwise_lt_range
 intro a a' h b hb b' hb'
 cases h1:cN (X.ses k) (fun c=>aN (X.hist c) (X.ses k).snap) a with
 |none=>rw[h1] at hb;cases hb
 |some p=>
  cases h2:cN (X.ses k) (fun c=>aN (X.hist c) (X.ses k).snap) a' with
  |none=>rw[h2] at hb';cases hb'
  |some p'=>
   rw[h1] at hb
   rw[h2] at hb'
   simp only[Option.map_some,Option.some.injEq] at hb hb'
   rw[←hb,←hb']
   exact h
theorem Br {X:ap}{E:bn}{L:List (Nat×bu)}(h:g8 X E L){q:Nat×bu}(hq:q∈L):(cH E.com q.2 60).map Value.string=gI (fO X q.1)∧(cH E.com q.2 60).length=(fO X q.1).length:=by
 have e:cH E.com q.2 60=(fO X q.1).map fun p=>cA p.1 p.2.1:=by
  unfold cH fO dk
  rw[List.map_filterMap]
  apply dJ
  intro c hc
  have hs:=h.seen hq (by simpa using hc)
  rw[←on] at hs
  unfold ko
  unfold lK at hs
  by_cases hv:(du E.com q.2 (ax c)).1<0
  ·rw[if_pos hv] at hs
   rw[if_neg (by omega)]
   cases hst:cN (X.ses q.1) (fun c=>aN (X.hist c) (X.ses q.1).snap) c with
   |none=>rfl
   |some p=>rw[hst] at hs;cases hs
  ·rw[if_neg hv] at hs
   rw[if_pos (by omega)]
   cases hst:cN (X.ses q.1) (fun c=>aN (X.hist c) (X.ses q.1).snap) c with
   |none=>rw[hst] at hs;cases hs
   |some p=>
    rw[hst] at hs
    simp only[Option.map_some,Option.some.injEq] at hs
    simp[vx,hs]
 rw[e]
 exact⟨by simp[gI],by simp⟩
end Go.Proofs.YthlhbjnkohinmaaGreat
