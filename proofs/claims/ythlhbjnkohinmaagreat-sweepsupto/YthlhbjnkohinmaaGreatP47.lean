import Derived.Test.YthlhbjnkohinmaaGreatP12
import Derived.Test.YthlhbjnkohinmaaGreatP27
import Derived.Test.YthlhbjnkohinmaaGreatP23
import Derived.Test.YthlhbjnkohinmaaGreatP13
import Derived.Test.YthlhbjnkohinmaaGreatP28
import Derived.Test.YthlhbjnkohinmaaGreatP35
import Derived.Test.YthlhbjnkohinmaaGreatP20
import Derived.Test.YthlhbjnkohinmaaGreatP33
import Derived.Deep.AppendLies
namespace Go.Proofs.YthlhbjnkohinmaaGreat
set_option maxRecDepth 100000
set_option maxHeartbeats 8000000
open Go.RowKit
theorem bJ.within {Q:Value→eW}(hQ:∀ v,bW (Q v))(y:Nat)(E:bm):bW (bJ Q y E):=by
 rintro w f ⟨rv,cv,kv,ov,cs,ps,h⟩
 exact bY.within (eY.within _ _ _) (bY.within (hQ rv) (bY.within (bn.within _ _ _ _ _) (bY.within (aB.within (fun _ _=>bn.within _ _ _ _ _) _ _) (bY.within (bn.within _ _ _ _ _) (bY.within (bn.within _ _ _ _ _) (aB.within ez.within _ _)))))) h
theorem rU (X:ap):(aZ X).2.src=X.src:=by unfold aZ;cases be X 0 <;> rfl
theorem ue (X:ap)(n:Int)(s:ByteArray):(cg X n s).2.src=X.src:=by
 unfold cg
 cases aM X n with
 |none=>rfl
 |some k=>cases eQ s <;> rfl
theorem qp (X:ap)(n:Int)(s:ByteArray):(aX X n s).2.src=X.src:=by
 unfold aX
 cases aM X n with
 |none=>rfl
 |some k=>cases eC s <;> rfl
theorem qF (X:ap)(n:Int):(aY X n).2.src=X.src:=by
 unfold aY
 cases aM X n <;> rfl
abbrev eN (k a b c:Int)(s:ByteArray):Value:=.agg #[.int .i64 k,.int .i64 a,.int .i64 b,.int .i64 c,.string s]
structure yz (s:ByteArray)(R:List ay):Prop where
 size:s.size≤400
 nine:R.length≤9
 ok:∀ r∈R,gg s r
 walk:∀ r∈R,mj s r
 five:∀ k (h:k<R.length),R[k].2.1.length≤5
 bound:∀ r∈R,b9 s r.2.1 (fun _=>false)≠none
theorem xE {s:ByteArray}{R:List ay}(h:cz s 0 0 (some R)):yz s R:=by
 rcases h with ⟨_,h,_,_⟩|⟨_,_,_,_,h,_⟩|⟨_,_,_,_,_,_,h,_⟩|⟨_,_,_,_,_,_,_,h,_⟩|⟨R',j,h1,h2,h3,h4,_,_,h5⟩
 ·cases h
 ·cases h
 ·cases h
 ·cases h
 ·cases h5
  have hok:=(sJ h2 rfl).2
  have hl:R.length≤9:=by
   by_cases hh:R.length≤9
   ·exact hh
   ·have:=(mr h3 9 (by omega)).2.2
    omega
  refine⟨h1,hl,hok,fun r hr=>?_,fun k hk=>(mr h3 k hk).1,fun r hr=>?_⟩
  ·obtain⟨k,hk,e⟩:=List.getElem_of_mem hr
   have h6:=h3 k hk
   have h7:=(mr h3 k hk).1
   rw[e] at h7
   refine⟨lz (hok r hr).conds rfl,?_,by omega⟩
   by_cases hp:bL s r.2.1≤3
   ·exact hp
   ·refine absurd ⟨hk,.inr ?_⟩ h6
    rw[e]
    unfold ip
    simp
    omega
  ·obtain⟨k,hk,e⟩:=List.getElem_of_mem hr
   intro hb
   refine absurd ⟨hk,?_⟩ (h4 k hk)
   rw[e]
   unfold mw
   rw[hb]
theorem Ap (X:ap)(k:Nat):qQ (fO X k):=by
 unfold qQ fO di
 refine List.Pairwise.filterMap _ (R:=fun a b:Nat=>a<b) ?_ List.pairwise_lt_range
 intro a a' h b hb b' hb'
 cases h1:cK (X.ses k) (fun c=>aN (X.hist c) (X.ses k).snap) a with
 |none=>rw[h1] at hb;cases hb
 |some p=>
  cases h2:cK (X.ses k) (fun c=>aN (X.hist c) (X.ses k).snap) a' with
  |none=>rw[h2] at hb';cases hb'
  |some p'=>
   rw[h1] at hb
   rw[h2] at hb'
   simp only[Option.map_some,Option.some.injEq] at hb hb'
   rw[←hb,←hb']
   exact h
theorem Aq {X:ap}{E:bm}{L:List (Nat×br)}(h:ic X E L){q:Nat×br}(hq:q∈L):(cF E.com q.2 60).map Value.string=gC (fO X q.1)∧(cF E.com q.2 60).length=(fO X q.1).length:=by
 have e:cF E.com q.2 60=(fO X q.1).map fun p=>cq p.1 p.2.1:=by
  unfold cF fO di
  rw[List.map_filterMap]
  apply dG
  intro c hc
  have hs:=h.seen hq (by simpa using hc)
  rw[←nE] at hs
  unfold j5
  unfold lH at hs
  by_cases hv:(dq E.com q.2 (ax c)).1<0
  ·rw[if_pos hv] at hs
   rw[if_neg (by omega)]
   cases hst:cK (X.ses q.1) (fun c=>aN (X.hist c) (X.ses q.1).snap) c with
   |none=>rfl
   |some p=>rw[hst] at hs;cases hs
  ·rw[if_neg hv] at hs
   rw[if_pos (by omega)]
   cases hst:cK (X.ses q.1) (fun c=>aN (X.hist c) (X.ses q.1).snap) c with
   |none=>rw[hst] at hs;cases hs
   |some p=>
    rw[hst] at hs
    simp only[Option.map_some,Option.some.injEq] at hs
    simp[vV,hs]
 rw[e]
 exact⟨by simp[gC],by simp⟩
def E0 (room:Int):bm:=⟨room,[],[],[],0⟩
def sG (a:Int)(n:Nat):Nat:=(mF a n).toNat
theorem Dv (a:Int){n:Nat}(h:0<n):sG a n<n:=by
 have:=uv a n (by omega)
 unfold sG
 omega
theorem Ci (a:Int){n:Nat}(h:0<n):((sG a n:Nat):Int)=mF a n:=by
 have:=uv a n (by omega)
 unfold sG
 omega
end Go.Proofs.YthlhbjnkohinmaaGreat
