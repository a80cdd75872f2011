import Derived.Test.YthlhbjnkohinmaaGreatP15
import Derived.Test.YthlhbjnkohinmaaGreatP52
import Derived.JoinedCond
namespace Go.Proofs.YthlhbjnkohinmaaGreat
set_option maxRecDepth 100000
set_option maxHeartbeats 8000000
open Go.ChangeShapes Go.WideShapes Go.ChangeAt Go.RowKit Go.Deep
theorem A6 (w:World) (a:Option Addr) (len cap:Nat) (last lo hi:Int) (h:nh w a len) (hlen:len≤10000000) :
  Calls Tryz.prog 9 #[.slice a len cap,.int .i64 last,.bool true,.int .i64 lo,.int .i64 hi] w fun e w'=>e=.returned (.int .i64 (-1))∧Below w.heap.size w w':=by
 rcases h with rfl|⟨sb,off,rfl,h1,h2⟩
 ·exact zk w a cap last lo hi
 ·exact Ay last lo hi w sb off len cap h1 hlen h2
theorem z7 (w:World) (a:Option Addr) (len cap:Nat) (h:nh w a len) (hlen:len≤10000000) :
  Calls Tryz.prog 7 #[.slice a len cap] w fun e w'=>e=.returned (.bool true)∧Below w.heap.size w w':=by
 have HU:=af (A6 w a len cap 9 5 9 h hlen)
 clear h
 go_enter Tryz.func7,Tryz.ntmps7
 go_wp2_with fail
 go_at_call 9
 refine HU.out.mono ?_
 rintro e w1 ⟨rfl,hb⟩
 have HB:=af hb
 clear hb
 go_wp2
 go_ret
 exact⟨rfl,HB.out⟩
theorem wd (os:Os) (started:os.Started) (H:Type) (enc:TypeId×Value→H) (F:Stop.Interp) :
  ReturnsInHanded {} Tryz.checked os 7 .any ((Rows.OpenSpec.upto Rows.runsSpec).pre6 enc Tryz.prog Tryz.f7 Rows.runsUptoRow.domain false) (((Rows.OpenSpec.upto Rows.runsSpec).at F).post enc Tryz.prog Tryz.f7 false true false false):=by
 refine returnsInHanded_of_cond (C:=Tryz.checked) (s:=Rows.OpenSpec.upto Rows.runsSpec) (k:=Rows.uptoSmall) rfl Tryz.own started (by kernel_rfl) Tryz.func7
  (OpenSpec.witness (enc:=enc) (C:=Tryz.checked) (s:=Rows.OpenSpec.upto Rows.runsSpec) (k:=Rows.uptoSmall) rfl false ⟨#[],#[.slice none 0 0],[]⟩ 8 (by kernel_rfl) (by kernel_rfl) (by kernel_rfl)
   (x:=([.nil],[],[])) (by kernel_rfl) rfl (by kernel_rfl)) ?_
 intro W base args ds gs before hval0 hW _ hk _
 have hval:∀ (j:Nat) t v,Tryz.f7.params[j]?=some t→args[j]?=some v→Value.okWide Tryz.prog W .any base t v:=hval0
 have hW':=hW
 obtain⟨p,q,hA0,hV,rfl,_,_⟩:=hW
 have hA:DataW.TrodAll enc Tryz.prog W 0 (fun _=>true) true Tryz.f7.params.toList args.toList ds p:=hA0
 rw[Tryz.params7] at hA hval
 obtain⟨v0,d0,rfl,rfl,h0⟩:=trodAll_one hA
 obtain⟨rfl,rfl⟩:=trodVars_none hV
 obtain⟨a0,len0,cap0,rfl⟩:=okWide_slice Tryz.underlying22 (hval 0 22 v0 rfl rfl)
 have k0:=h0
 have lt0:∀ x∈p,x.block<W.heap.size:=by obtain⟨m,hm⟩:=k0;exact DataW.trod_lt m _ _ _ hm
 have hs0:nh W a0 len0∧len0≤10000000:=by
  obtain⟨fuel,hf⟩:=h0
  obtain⟨hs,elems,sp,hd|hd⟩:=uw (by simpa [Value.cells] using hf)
  ·exact⟨hs,by rw[hd.2];omega⟩
  ·refine⟨hs,?_⟩
   obtain⟨rfl,hel⟩:=hd
   have hb:=wW hk
   omega
 clear hA0 hval0
 refine (z7 W a0 len0 cap0 hs0.1 hs0.2).mono fun e W' ⟨he,bel⟩=>?_
 subst he
 exact⟨_,rfl,_,_,_,[],_,[],hW',trodAll_mk1 (shut_bool Tryz.underlying4 _),trodAll_mk1 (Below.trod Tryz.laidOut (by kernel_rfl) (of_decide_eq_true (by kernel_rfl)) k0 bel lt0),rfl,bel.frame _,fun h=>by cases h⟩
theorem runsUpto_holds:Rows.RunsUptoSaid:=
 OpenClaim.holds_of_cond 7 Tryz.f7 rfl rfl rfl rfl rfl rfl rfl ⟨rfl,rfl,rfl,rfl,rfl⟩ rfl rfl rfl rfl rfl (by kernel_rfl) Tryz.func7 (by kernel_rfl)
  (of_decide_eq_true (by kernel_rfl)) (by unfold Func.isWrapper;first|(rw[if_pos (by decide +kernel)];kernel_rfl)|(rw[if_neg (by decide +kernel)];exact⟨rfl,rfl⟩))
  (fun os started H enc _ F=>wd os started H enc F)
#print axioms runsUpto_holds
end Go.Proofs.YthlhbjnkohinmaaGreat
