import Derived.Test.YthlhbjnkohinmaaGreatP11
import Derived.Test.YthlhbjnkohinmaaGreatP27
import Derived.Test.YthlhbjnkohinmaaGreatP23
import Derived.Test.YthlhbjnkohinmaaGreatP12
import Derived.Deep.AppendLies
import Derived.Test.YthlhbjnkohinmaaGreatP13
import Derived.Test.YthlhbjnkohinmaaGreatP28
import Derived.Test.YthlhbjnkohinmaaGreatP35
import Derived.Test.YthlhbjnkohinmaaGreatP20
import Derived.Test.YthlhbjnkohinmaaGreatP33
namespace Go.Proofs.YthlhbjnkohinmaaGreat
set_option maxRecDepth 100000
set_option maxHeartbeats 8000000
open Go.RowKit
theorem bI.within {Q:Value→eX}(hQ:∀ v,bV (Q v))(y:Nat)(E:bk):bV (bI Q y E):=by
 rintro w f ⟨rv,cv,kv,ov,cs,ps,h⟩
 exact bY.within (eZ.within _ _ _) (bY.within (hQ rv) (bY.within (bn.within _ _ _ _ _) (bY.within (aA.within (fun _ _=>bn.within _ _ _ _ _) _ _) (bY.within (bn.within _ _ _ _ _) (bY.within (bn.within _ _ _ _ _) (aA.within eB.within _ _)))))) h
theorem rP (X:ap):(aY X).2.src=X.src:=by unfold aY;cases bd X 0 <;> rfl
theorem vH (X:ap)(n:Int)(s:ByteArray):(cq X n s).2.src=X.src:=by
 unfold cq
 cases aL X n with
 |none=>rfl
 |some k=>cases eP s <;> rfl
theorem pE (X:ap)(n:Int)(s:ByteArray):(aX X n s).2.src=X.src:=by
 unfold aX
 cases aL X n with
 |none=>rfl
 |some k=>cases eD s <;> rfl
theorem pW (X:ap)(n:Int):(aW X n).2.src=X.src:=by
 unfold aW
 cases aL X n <;> rfl
abbrev eA (k a b c:Int)(s:ByteArray):Value:=.agg #[.int .i64 k,.int .i64 a,.int .i64 b,.int .i64 c,.string s]
abbrev Fm (k a b c:Int)(s:ByteArray):Obj:=.cells #[.int .i64 k,.int .i64 a,.int .i64 b,.int .i64 c,.string s] 30
def E0 (room:Int):bk:=⟨room,[],[],[],0⟩
def mN (a:Int)(n:Nat):Nat:=(nq a n).toNat
theorem uD (a:Int){n:Nat}(h:0<n):mN a n<n:=by
 have:=uq a n (by omega)
 unfold mN
 omega
theorem we (a:Int){n:Nat}(h:0<n):((mN a n:Nat):Int)=nq a n:=by
 have:=uq a n (by omega)
 unfold mN
 omega
open Go.ChangeShapes Go.WideShapes Go.ChangeAt Go.RowKit Go.Deep
theorem AN (w:World)(a:Option Addr)(cap:Nat)(last lo hi:Int):
  Calls Tryz.prog 9 #[.slice a 0 cap,.int .i64 last,.bool true,.int .i64 lo,.int .i64 hi] w fun e w'=>e=.returned (.int .i64 (-1))∧Below w.heap.size w w':=by
 go_enter Tryz.func9,Tryz.ntmps9
 go_wp2_with fail
 refine wp_loop_rounds 1 ?_
 rw[rounds_succ]
 go_wp2
 go_ret
 exact⟨rfl,(Below.refl _ w).alloc (Nat.le_refl _) _⟩
open Go.RowKit
structure yY (s:ByteArray)(R:List ax):Prop where
 size:s.size≤400
 nine:R.length≤9
 ok:∀ r∈R,fV s r
 walk:∀ r∈R,mb s r
 five:∀ k (h:k<R.length),R[k].2.1.length≤5
 bound:∀ r∈R,ce s r.2.1 (fun _=>false)≠none
theorem xj {s:ByteArray}{R:List ax}(h:cF s 0 0 (some R)):yY s R:=by
 rcases h with ⟨_,h,_,_⟩|⟨_,_,_,_,h,_⟩|⟨_,_,_,_,_,_,h,_⟩|⟨_,_,_,_,_,_,_,h,_⟩|⟨R',j,h1,h2,h3,h4,_,_,h5⟩
 ·cases h
 ·cases h
 ·cases h
 ·cases h
 ·cases h5
  have hok:=(tn h2 rfl).2
  have hl:R.length≤9:=by
   by_cases hh:R.length≤9
   ·exact hh
   ·have:=(mf h3 9 (by omega)).2.2
    omega
  refine⟨h1,hl,hok,fun r hr=>?_,fun k hk=>(mf h3 k hk).1,fun r hr=>?_⟩
  ·obtain⟨k,hk,e⟩:=List.getElem_of_mem hr
   have h6:=h3 k hk
   have h7:=(mf h3 k hk).1
   rw[e] at h7
   refine⟨lA (hok r hr).conds rfl,?_,by omega⟩
   by_cases hp:bL s r.2.1≤3
   ·exact hp
   ·refine absurd ⟨hk,.inr ?_⟩ h6
    rw[e]
    unfold ip
    simp
    omega
  ·obtain⟨k,hk,e⟩:=List.getElem_of_mem hr
   intro hb
   refine absurd ⟨hk,?_⟩ (h4 k hk)
   rw[e]
   unfold mr
   rw[hb]
theorem Bo (X:ap)(k:Nat):pA (fQ X k):=by
 unfold pA fQ dj
 refine List.Pairwise.filterMap _ (R:=fun a b:Nat=>a<b) ?_ List.pairwise_lt_range
 intro a a' h b hb b' hb'
 cases h1:cL (X.ses k) (fun c=>aM (X.hist c) (X.ses k).snap) a with
 |none=>rw[h1] at hb;cases hb
 |some p=>
  cases h2:cL (X.ses k) (fun c=>aM (X.hist c) (X.ses k).snap) a' with
  |none=>rw[h2] at hb';cases hb'
  |some p'=>
   rw[h1] at hb
   rw[h2] at hb'
   simp only[Option.map_some,Option.some.injEq] at hb hb'
   rw[←hb,←hb']
   exact h
theorem Ak {X:ap}{E:bk}{L:List (Nat×br)}(h:ia X E L){q:Nat×br}(hq:q∈L):(cG E.com q.2 60).map Value.string=gI (fQ X q.1)∧(cG E.com q.2 60).length=(fQ X q.1).length:=by
 have e:cG E.com q.2 60=(fQ X q.1).map fun p=>cw p.1 p.2.1:=by
  unfold cG fQ dj
  rw[List.map_filterMap]
  apply dJ
  intro c hc
  have hs:=h.seen hq (by simpa using hc)
  rw[←nW] at hs
  unfold ka
  unfold lI at hs
  by_cases hv:(dw E.com q.2 (aw c)).1<0
  ·rw[if_pos hv] at hs
   rw[if_neg (by omega)]
   cases hst:cL (X.ses q.1) (fun c=>aM (X.hist c) (X.ses q.1).snap) c with
   |none=>rfl
   |some p=>rw[hst] at hs;cases hs
  ·rw[if_neg hv] at hs
   rw[if_pos (by omega)]
   cases hst:cL (X.ses q.1) (fun c=>aM (X.hist c) (X.ses q.1).snap) c with
   |none=>rw[hst] at hs;cases hs
   |some p=>
    rw[hst] at hs
    simp only[Option.map_some,Option.some.injEq] at hs
    simp[ux,hs]
 rw[e]
 exact⟨by simp[gI],by simp⟩
end Go.Proofs.YthlhbjnkohinmaaGreat
