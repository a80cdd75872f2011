import Derived.Test.YthlhbjnkohinmabGreatP12
import Derived.Test.YthlhbjnkohinmabGreatP27
import Derived.Test.YthlhbjnkohinmabGreatP23
import Derived.Test.YthlhbjnkohinmabGreatP13
import Derived.Test.YthlhbjnkohinmabGreatP28
import Derived.Test.YthlhbjnkohinmabGreatP35
import Derived.Test.YthlhbjnkohinmabGreatP20
import Derived.Test.YthlhbjnkohinmabGreatP33
import Derived.Deep.AppendLies
namespace Go.Proofs.YthlhbjnkohinmabGreat
set_option maxRecDepth 100000
set_option maxHeartbeats 8000000
open Go.RowKit
theorem bG.within {Q:Value→eM}(hQ:∀ v,bW (Q v))(y:Nat)(E:bm):bW (bG Q y E):=by
 rintro w f ⟨rv,cv,kv,ov,cs,ps,h⟩
 exact b6.within (eZ.within _ _ _) (b6.within (hQ rv) (b6.within (bk.within _ _ _ _ _) (b6.within (aA.within (fun _ _=>bk.within _ _ _ _ _) _ _) (b6.within (bk.within _ _ _ _ _) (b6.within (bk.within _ _ _ _ _) (aA.within ez.within _ _)))))) h
theorem sB (X:ap):(a8 X).2.src=X.src:=by unfold a8;cases bd X 0 <;> rfl
theorem vO (X:ap)(n:Int)(s:ByteArray):(cj X n s).2.src=X.src:=by
 unfold cj
 cases aM X n with
 |none=>rfl
 |some k=>cases eU s <;> rfl
theorem pS (X:ap)(n:Int)(s:ByteArray):(aX X n s).2.src=X.src:=by
 unfold aX
 cases aM X n with
 |none=>rfl
 |some k=>cases eE s <;> rfl
theorem qM (X:ap)(n:Int):(aY X n).2.src=X.src:=by
 unfold aY
 cases aM X n <;> rfl
abbrev ey (k a b c:Int)(s:ByteArray):Value:=.agg #[.int .i64 k,.int .i64 a,.int .i64 b,.int .i64 c,.string s]
structure yT (s:ByteArray)(R:List ay):Prop where
 size:s.size≤400
 nine:R.length≤9
 ok:∀ r∈R,gj s r
 walk:∀ r∈R,md s r
 five:∀ k (h:k<R.length),R[k].2.1.length≤5
 bound:∀ r∈R,cd s r.2.1 (fun _=>false)≠none
theorem xf {s:ByteArray}{R:List ay}(h:cE s 0 0 (some R)):yT s R:=by
 rcases h with ⟨_,h,_,_⟩|⟨_,_,_,_,h,_⟩|⟨_,_,_,_,_,_,h,_⟩|⟨_,_,_,_,_,_,_,h,_⟩|⟨R',j,h1,h2,h3,h4,_,_,h5⟩
 ·cases h
 ·cases h
 ·cases h
 ·cases h
 ·cases h5
  have hok:=(tA h2 rfl).2
  have hl:R.length≤9:=by
   by_cases hh:R.length≤9
   ·exact hh
   ·have:=(mj h3 9 (by omega)).2.2
    omega
  refine⟨h1,hl,hok,fun r hr=>?_,fun k hk=>(mj h3 k hk).1,fun r hr=>?_⟩
  ·obtain⟨k,hk,e⟩:=List.getElem_of_mem hr
   have h6:=h3 k hk
   have h7:=(mj h3 k hk).1
   rw[e] at h7
   refine⟨lA (hok r hr).conds rfl,?_,by omega⟩
   by_cases hp:bL s r.2.1≤3
   ·exact hp
   ·refine absurd ⟨hk,.inr ?_⟩ h6
    rw[e]
    unfold iq
    simp
    omega
  ·obtain⟨k,hk,e⟩:=List.getElem_of_mem hr
   intro hb
   refine absurd ⟨hk,?_⟩ (h4 k hk)
   rw[e]
   unfold mb
   rw[hb]
theorem zG (X:ap)(k:Nat):qA (fO X k):=by
 unfold qA fO dj
 refine List.Pairwise.filterMap _ (R:=fun a b:Nat=>a<b) ?_ List.pairwise_lt_range
 intro a a' h b hb b' hb'
 cases h1:cM (X.ses k) (fun c=>aN (X.hist c) (X.ses k).snap) a with
 |none=>rw[h1] at hb;cases hb
 |some p=>
  cases h2:cM (X.ses k) (fun c=>aN (X.hist c) (X.ses k).snap) a' with
  |none=>rw[h2] at hb';cases hb'
  |some p'=>
   rw[h1] at hb
   rw[h2] at hb'
   simp only[Option.map_some,Option.some.injEq] at hb hb'
   rw[←hb,←hb']
   exact h
theorem zM {X:ap}{E:bm}{L:List (Nat×br)}(h:id X E L){q:Nat×br}(hq:q∈L):(cH E.com q.2 60).map Value.string=gD (fO X q.1)∧(cH E.com q.2 60).length=(fO X q.1).length:=by
 have e:cH E.com q.2 60=(fO X q.1).map fun p=>cz p.1 p.2.1:=by
  unfold cH fO dj
  rw[List.map_filterMap]
  apply dK
  intro c hc
  have hs:=h.seen hq (by simpa using hc)
  rw[←nL] at hs
  unfold kr
  unfold lH at hs
  by_cases hv:(du E.com q.2 (ax c)).1<0
  ·rw[if_pos hv] at hs
   rw[if_neg (by omega)]
   cases hst:cM (X.ses q.1) (fun c=>aN (X.hist c) (X.ses q.1).snap) c with
   |none=>rfl
   |some p=>rw[hst] at hs;cases hs
  ·rw[if_neg hv] at hs
   rw[if_pos (by omega)]
   cases hst:cM (X.ses q.1) (fun c=>aN (X.hist c) (X.ses q.1).snap) c with
   |none=>rw[hst] at hs;cases hs
   |some p=>
    rw[hst] at hs
    simp only[Option.map_some,Option.some.injEq] at hs
    simp[up,hs]
 rw[e]
 exact⟨by simp[gD],by simp⟩
def E0 (room:Int):bm:=⟨room,[],[],[],0⟩
def rU (a:Int)(n:Nat):Nat:=(mz a n).toNat
theorem CT (a:Int){n:Nat}(h:0<n):rU a n<n:=by
 have:=uW a n (by omega)
 unfold rU
 omega
theorem Dt (a:Int){n:Nat}(h:0<n):((rU a n:Nat):Int)=mz a n:=by
 have:=uW a n (by omega)
 unfold rU
 omega
end Go.Proofs.YthlhbjnkohinmabGreat
