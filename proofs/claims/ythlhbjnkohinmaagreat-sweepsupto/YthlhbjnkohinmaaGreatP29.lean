import Derived.Test.YthlhbjnkohinmaaGreatP14
import Derived.Test.YthlhbjnkohinmaaGreatP06
import Derived.Test.YthlhbjnkohinmaaGreatP24
import Derived.Deep.RegionHeld3
import Derived.Test.YthlhbjnkohinmaaGreatP12
import Derived.Deep.CutRange
namespace Go.Proofs.YthlhbjnkohinmaaGreat
set_option maxRecDepth 100000
set_option maxHeartbeats 8000000
open Go.RowKit
theorem gG {w:World}{o:Obj}{n:Nat}(h:n=w.heap.size):(w.alloc o).heap[n]?=some o:=by subst h;exact heap_alloc_new w o
def eI (e:fq)(n:Nat):Int:=(e n).getD (-1)
def fG (e:fq):Value:=.agg #[.int .i64 (eI e 0),.int .i64 (eI e 1),.int .i64 (eI e 2),.int .i64 (eI e 3)]
theorem sC {t:Int}(h:ex t=true):t=119∨t=120∨t=121∨t=122:=by
 simp only[ex,decide_eq_true_eq] at h
 omega
theorem oX (e:fq)(t:Int)(w:World)(h0:0≤t)(h1:t≤255)(ht:bd t=true):
  Calls Tryz.prog 139 #[fG e,.int .u8 t] w fun r w'=>r=.returned (.int .i64 (fF (-1) e t))∧w.grownBy w' none:=by
 unfold fG
 obtain⟨a0,ha0⟩:∃ a0,a0=eI e 0:=⟨_,rfl⟩
 obtain⟨a1,ha1⟩:∃ a1,a1=eI e 1:=⟨_,rfl⟩
 obtain⟨a2,ha2⟩:∃ a2,a2=eI e 2:=⟨_,rfl⟩
 obtain⟨a3,ha3⟩:∃ a3,a3=eI e 3:=⟨_,rfl⟩
 rw[←ha0,←ha1,←ha2,←ha3]
 cases hd:bM t with
 |true=>
  have hb:48≤t∧t≤57:=by simpa [bM] using hd
  obtain⟨r,hr⟩:∃ r,r=fF (-1) e t:=⟨_,rfl⟩
  have HU:Hid (r=t - 48):=af (by rw[hr];unfold fF;rw[hd];rfl)
  rw[←hr]
  have HD:=af (fun W=>by have h:=eX t W h0 h1;rw[hd] at h;exact h)
  clear hr ha0 ha1 ha2 ha3 hd ht
  go_enter Tryz.func139,Tryz.ntmps139
  go_wp2_with fail
  go_at_call 46
  refine (HD.out _).mono ?_
  rintro e w' ⟨rfl,rfl⟩
  go_wp2
  go_ret
  exact⟨by rw[HU.out];rfl,ab (ag _ _) _⟩
 |false=>
  have hl:ex t=true:=by simpa [bd,hd] using ht
  obtain⟨r,hr⟩:∃ r,r=fF (-1) e t:=⟨_,rfl⟩
  have HU:Hid (r=eI e (t - 119).toNat):=af (by rw[hr];unfold fF;rw[hd];rfl)
  rw[←hr]
  have HD:=af (fun W=>by have h:=eX t W h0 h1;rw[hd] at h;exact h)
  clear hr hd ht
  rcases sC hl with rfl|rfl|rfl|rfl
  all_goals
   have HU2:=af (show r=_ from HU.out)
   go_enter Tryz.func139,Tryz.ntmps139
   go_wp2_with fail
   go_at_call 46
   refine (HD.out _).mono ?_
   rintro e w' ⟨rfl,rfl⟩
   go_wp2
   go_ret
   refine⟨?_,ab (ag _ _) _⟩
   first
    |(rw[HU.out,show ((119:Int) - 119).toNat=0 from rfl,←ha0];rfl)
    |(rw[HU.out,show ((120:Int) - 119).toNat=1 from rfl,←ha1];rfl)
    |(rw[HU.out,show ((121:Int) - 119).toNat=2 from rfl,←ha2];rfl)
    |(rw[HU.out,show ((122:Int) - 119).toNat=3 from rfl,←ha3];rfl)
def D7 (e:fq)(t d:Int):Value:=.tuple #[fG ((jK e t d).getD e),.bool (jK e t d).isSome]
theorem Gg (e:fq)(n:Nat)(d:Int)(j:Nat):eI (cG e n (some d)) j=if j=n then d else eI e j:=by
 unfold eI cG
 split <;> rfl
theorem zw (a0 a1 a2 a3 t d v:Int)(w:World)(n95:(t==95)=false)(nv:(v==-1)=false)
  (HOF:Hid (∀ W,Calls Tryz.prog 139 #[.agg #[.int .i64 a0,.int .i64 a1,.int .i64 a2,.int .i64 a3],.int .u8 t] W fun r w'=>r=.returned (.int .i64 v)∧W.grownBy w' none)) :
  Calls Tryz.prog 146 #[.agg #[.int .i64 a0,.int .i64 a1,.int .i64 a2,.int .i64 a3],.int .u8 t,.int .i64 d] w fun r w'=>r=.returned (.tuple #[.agg #[.int .i64 a0,.int .i64 a1,.int .i64 a2,.int .i64 a3],.bool (v==d)])∧w.grownBy w' none:=by
 go_enter Tryz.func146,Tryz.ntmps146
 go_wp2_with fail
 go_at_call 139
 refine (HOF.out _).mono ?_
 rintro e' w' ⟨rfl,hg⟩
 have b0:w'.heap[w.heap.size]?=some (.cells #[.int .i64 a0,.int .i64 a1,.int .i64 a2,.int .i64 a3] 134 (0,0)):=(hg.block _ (by simp;omega) (by simp)).trans ((Below.heap_alloc _ _ _ (by simp)).trans (heap_alloc_new w _))
 have b1:w'.heap[w.heap.size+1]?=some (.cells #[.int .i64 0,.int .i64 0,.int .i64 0,.int .i64 0] 134 (0,0)):=(hg.block _ (by simp) (by simp)).trans (gG (by simp))
 have c0:w'.cell? ⟨w.heap.size,0,none⟩=some (.int .i64 a0):=by rw[cell_of_row _ _ _ _ _ _ b0];rfl
 have c1:w'.cell? ⟨w.heap.size,1,none⟩=some (.int .i64 a1):=by rw[cell_of_row _ _ _ _ _ _ b0];rfl
 have c2:w'.cell? ⟨w.heap.size,2,none⟩=some (.int .i64 a2):=by rw[cell_of_row _ _ _ _ _ _ b0];rfl
 have c3:w'.cell? ⟨w.heap.size,3,none⟩=some (.int .i64 a3):=by rw[cell_of_row _ _ _ _ _ _ b0];rfl
 have r0:w'.cell? ⟨w.heap.size+1,0,none⟩=some (.int .i64 0):=by rw[cell_of_row _ _ _ _ _ _ b1];rfl
 have r1:w'.cell? ⟨w.heap.size+1,1,none⟩=some (.int .i64 0):=by rw[cell_of_row _ _ _ _ _ _ b1];rfl
 have r2:w'.cell? ⟨w.heap.size+1,2,none⟩=some (.int .i64 0):=by rw[cell_of_row _ _ _ _ _ _ b1];rfl
 have r3:w'.cell? ⟨w.heap.size+1,3,none⟩=some (.int .i64 0):=by rw[cell_of_row _ _ _ _ _ _ b1];rfl
 have z0:=ai b1 0
 have z1:=ai b1 1
 have z2:=ai b1 2
 have z3:=ai b1 3
 have HG:Hid (w.grownBy w' none):=af (ae (ab (ab (ag _ _) _) _) hg)
 have HB1:=af b1
 clear hg b0 b1 HOF
 go_wp2
 refine bodyPost_ret (aO Tryz.results146 rfl (ah (ah (ah (ah HB1.out _ _) _ _) _ _) _ _) Tryz.underlying134 rfl (by kernel_rfl) rfl) rfl ⟨rfl,?_⟩
 exact aj (aj (aj (aj HG.out (.inr (by simp)) _) (.inr (by simp)) _) (.inr (by simp)) _) (.inr (by simp)) _
theorem A0 (a0 a1 a2 a3 d:Int)(w:World)
  (HOF:Hid (∀ W,Calls Tryz.prog 139 #[.agg #[.int .i64 a0,.int .i64 a1,.int .i64 a2,.int .i64 a3],.int .u8 119] W fun r w'=>r=.returned (.int .i64 (-1))∧W.grownBy w' none)) :
  Calls Tryz.prog 146 #[.agg #[.int .i64 a0,.int .i64 a1,.int .i64 a2,.int .i64 a3],.int .u8 119,.int .i64 d] w fun r w'=>r=.returned (.tuple #[.agg #[.int .i64 d,.int .i64 a1,.int .i64 a2,.int .i64 a3],.bool true])∧w.grownBy w' none:=by
 go_enter Tryz.func146,Tryz.ntmps146
 go_wp2_with fail
 go_at_call 139
 refine (HOF.out _).mono ?_
 rintro e' w' ⟨rfl,hg⟩
 have b0:w'.heap[w.heap.size]?=some (.cells #[.int .i64 a0,.int .i64 a1,.int .i64 a2,.int .i64 a3] 134 (0,0)):=(hg.block _ (by simp;omega) (by simp)).trans ((Below.heap_alloc _ _ _ (by simp)).trans (heap_alloc_new w _))
 have b1:w'.heap[w.heap.size+1]?=some (.cells #[.int .i64 0,.int .i64 0,.int .i64 0,.int .i64 0] 134 (0,0)):=(hg.block _ (by simp) (by simp)).trans (gG (by simp))
 have c0:w'.cell? ⟨w.heap.size,0,none⟩=some (.int .i64 a0):=by rw[cell_of_row _ _ _ _ _ _ b0];rfl
 have c1:w'.cell? ⟨w.heap.size,1,none⟩=some (.int .i64 a1):=by rw[cell_of_row _ _ _ _ _ _ b0];rfl
 have c2:w'.cell? ⟨w.heap.size,2,none⟩=some (.int .i64 a2):=by rw[cell_of_row _ _ _ _ _ _ b0];rfl
 have c3:w'.cell? ⟨w.heap.size,3,none⟩=some (.int .i64 a3):=by rw[cell_of_row _ _ _ _ _ _ b0];rfl
 have r0:w'.cell? ⟨w.heap.size+1,0,none⟩=some (.int .i64 0):=by rw[cell_of_row _ _ _ _ _ _ b1];rfl
 have r1:w'.cell? ⟨w.heap.size+1,1,none⟩=some (.int .i64 0):=by rw[cell_of_row _ _ _ _ _ _ b1];rfl
 have r2:w'.cell? ⟨w.heap.size+1,2,none⟩=some (.int .i64 0):=by rw[cell_of_row _ _ _ _ _ _ b1];rfl
 have r3:w'.cell? ⟨w.heap.size+1,3,none⟩=some (.int .i64 0):=by rw[cell_of_row _ _ _ _ _ _ b1];rfl
 have y0:=ai b0 0
 have z0:=ai b1 0
 have z1:=ai b1 1
 have z2:=ai b1 2
 have z3:=ai b1 3
 have HG:Hid (w.grownBy w' none):=af (ae (ab (ab (ag _ _) _) _) hg)
 have HB1:=af b1
 clear hg b0 b1 HOF
 go_wp2
 refine bodyPost_ret (aO Tryz.results146 rfl (ah (ah (ah (ah ((Below.heap_setCell _ _ _ _ (by simp)).trans HB1.out) _ _) _ _) _ _) _ _) Tryz.underlying134 rfl (by kernel_rfl) rfl) rfl ⟨rfl,?_⟩
 exact aj (aj (aj (aj (aj HG.out (.inr (by simp)) _) (.inr (by simp)) _) (.inr (by simp)) _) (.inr (by simp)) _) (.inr (by simp)) _
theorem Av (a0 a1 a2 a3 d:Int)(w:World)
  (HOF:Hid (∀ W,Calls Tryz.prog 139 #[.agg #[.int .i64 a0,.int .i64 a1,.int .i64 a2,.int .i64 a3],.int .u8 120] W fun r w'=>r=.returned (.int .i64 (-1))∧W.grownBy w' none)) :
  Calls Tryz.prog 146 #[.agg #[.int .i64 a0,.int .i64 a1,.int .i64 a2,.int .i64 a3],.int .u8 120,.int .i64 d] w fun r w'=>r=.returned (.tuple #[.agg #[.int .i64 a0,.int .i64 d,.int .i64 a2,.int .i64 a3],.bool true])∧w.grownBy w' none:=by
 go_enter Tryz.func146,Tryz.ntmps146
 go_wp2_with fail
 go_at_call 139
 refine (HOF.out _).mono ?_
 rintro e' w' ⟨rfl,hg⟩
 have b0:w'.heap[w.heap.size]?=some (.cells #[.int .i64 a0,.int .i64 a1,.int .i64 a2,.int .i64 a3] 134 (0,0)):=(hg.block _ (by simp;omega) (by simp)).trans ((Below.heap_alloc _ _ _ (by simp)).trans (heap_alloc_new w _))
 have b1:w'.heap[w.heap.size+1]?=some (.cells #[.int .i64 0,.int .i64 0,.int .i64 0,.int .i64 0] 134 (0,0)):=(hg.block _ (by simp) (by simp)).trans (gG (by simp))
 have c0:w'.cell? ⟨w.heap.size,0,none⟩=some (.int .i64 a0):=by rw[cell_of_row _ _ _ _ _ _ b0];rfl
 have c1:w'.cell? ⟨w.heap.size,1,none⟩=some (.int .i64 a1):=by rw[cell_of_row _ _ _ _ _ _ b0];rfl
 have c2:w'.cell? ⟨w.heap.size,2,none⟩=some (.int .i64 a2):=by rw[cell_of_row _ _ _ _ _ _ b0];rfl
 have c3:w'.cell? ⟨w.heap.size,3,none⟩=some (.int .i64 a3):=by rw[cell_of_row _ _ _ _ _ _ b0];rfl
 have r0:w'.cell? ⟨w.heap.size+1,0,none⟩=some (.int .i64 0):=by rw[cell_of_row _ _ _ _ _ _ b1];rfl
 have r1:w'.cell? ⟨w.heap.size+1,1,none⟩=some (.int .i64 0):=by rw[cell_of_row _ _ _ _ _ _ b1];rfl
 have r2:w'.cell? ⟨w.heap.size+1,2,none⟩=some (.int .i64 0):=by rw[cell_of_row _ _ _ _ _ _ b1];rfl
 have r3:w'.cell? ⟨w.heap.size+1,3,none⟩=some (.int .i64 0):=by rw[cell_of_row _ _ _ _ _ _ b1];rfl
 have y1:=ai b0 1
 have z0:=ai b1 0
 have z1:=ai b1 1
 have z2:=ai b1 2
 have z3:=ai b1 3
 have HG:Hid (w.grownBy w' none):=af (ae (ab (ab (ag _ _) _) _) hg)
 have HB1:=af b1
 clear hg b0 b1 HOF
 go_wp2
 refine bodyPost_ret (aO Tryz.results146 rfl (ah (ah (ah (ah ((Below.heap_setCell _ _ _ _ (by simp)).trans HB1.out) _ _) _ _) _ _) _ _) Tryz.underlying134 rfl (by kernel_rfl) rfl) rfl ⟨rfl,?_⟩
 exact aj (aj (aj (aj (aj HG.out (.inr (by simp)) _) (.inr (by simp)) _) (.inr (by simp)) _) (.inr (by simp)) _) (.inr (by simp)) _
theorem Be (a0 a1 a2 a3 d:Int)(w:World)
  (HOF:Hid (∀ W,Calls Tryz.prog 139 #[.agg #[.int .i64 a0,.int .i64 a1,.int .i64 a2,.int .i64 a3],.int .u8 121] W fun r w'=>r=.returned (.int .i64 (-1))∧W.grownBy w' none)) :
  Calls Tryz.prog 146 #[.agg #[.int .i64 a0,.int .i64 a1,.int .i64 a2,.int .i64 a3],.int .u8 121,.int .i64 d] w fun r w'=>r=.returned (.tuple #[.agg #[.int .i64 a0,.int .i64 a1,.int .i64 d,.int .i64 a3],.bool true])∧w.grownBy w' none:=by
 go_enter Tryz.func146,Tryz.ntmps146
 go_wp2_with fail
 go_at_call 139
 refine (HOF.out _).mono ?_
 rintro e' w' ⟨rfl,hg⟩
 have b0:w'.heap[w.heap.size]?=some (.cells #[.int .i64 a0,.int .i64 a1,.int .i64 a2,.int .i64 a3] 134 (0,0)):=(hg.block _ (by simp;omega) (by simp)).trans ((Below.heap_alloc _ _ _ (by simp)).trans (heap_alloc_new w _))
 have b1:w'.heap[w.heap.size+1]?=some (.cells #[.int .i64 0,.int .i64 0,.int .i64 0,.int .i64 0] 134 (0,0)):=(hg.block _ (by simp) (by simp)).trans (gG (by simp))
 have c0:w'.cell? ⟨w.heap.size,0,none⟩=some (.int .i64 a0):=by rw[cell_of_row _ _ _ _ _ _ b0];rfl
 have c1:w'.cell? ⟨w.heap.size,1,none⟩=some (.int .i64 a1):=by rw[cell_of_row _ _ _ _ _ _ b0];rfl
 have c2:w'.cell? ⟨w.heap.size,2,none⟩=some (.int .i64 a2):=by rw[cell_of_row _ _ _ _ _ _ b0];rfl
 have c3:w'.cell? ⟨w.heap.size,3,none⟩=some (.int .i64 a3):=by rw[cell_of_row _ _ _ _ _ _ b0];rfl
 have r0:w'.cell? ⟨w.heap.size+1,0,none⟩=some (.int .i64 0):=by rw[cell_of_row _ _ _ _ _ _ b1];rfl
 have r1:w'.cell? ⟨w.heap.size+1,1,none⟩=some (.int .i64 0):=by rw[cell_of_row _ _ _ _ _ _ b1];rfl
 have r2:w'.cell? ⟨w.heap.size+1,2,none⟩=some (.int .i64 0):=by rw[cell_of_row _ _ _ _ _ _ b1];rfl
 have r3:w'.cell? ⟨w.heap.size+1,3,none⟩=some (.int .i64 0):=by rw[cell_of_row _ _ _ _ _ _ b1];rfl
 have y2:=ai b0 2
 have z0:=ai b1 0
 have z1:=ai b1 1
 have z2:=ai b1 2
 have z3:=ai b1 3
 have HG:Hid (w.grownBy w' none):=af (ae (ab (ab (ag _ _) _) _) hg)
 have HB1:=af b1
 clear hg b0 b1 HOF
 go_wp2
 refine bodyPost_ret (aO Tryz.results146 rfl (ah (ah (ah (ah ((Below.heap_setCell _ _ _ _ (by simp)).trans HB1.out) _ _) _ _) _ _) _ _) Tryz.underlying134 rfl (by kernel_rfl) rfl) rfl ⟨rfl,?_⟩
 exact aj (aj (aj (aj (aj HG.out (.inr (by simp)) _) (.inr (by simp)) _) (.inr (by simp)) _) (.inr (by simp)) _) (.inr (by simp)) _
theorem Ag (a0 a1 a2 a3 d:Int)(w:World)
  (HOF:Hid (∀ W,Calls Tryz.prog 139 #[.agg #[.int .i64 a0,.int .i64 a1,.int .i64 a2,.int .i64 a3],.int .u8 122] W fun r w'=>r=.returned (.int .i64 (-1))∧W.grownBy w' none)) :
  Calls Tryz.prog 146 #[.agg #[.int .i64 a0,.int .i64 a1,.int .i64 a2,.int .i64 a3],.int .u8 122,.int .i64 d] w fun r w'=>r=.returned (.tuple #[.agg #[.int .i64 a0,.int .i64 a1,.int .i64 a2,.int .i64 d],.bool true])∧w.grownBy w' none:=by
 go_enter Tryz.func146,Tryz.ntmps146
 go_wp2_with fail
 go_at_call 139
 refine (HOF.out _).mono ?_
 rintro e' w' ⟨rfl,hg⟩
 have b0:w'.heap[w.heap.size]?=some (.cells #[.int .i64 a0,.int .i64 a1,.int .i64 a2,.int .i64 a3] 134 (0,0)):=(hg.block _ (by simp;omega) (by simp)).trans ((Below.heap_alloc _ _ _ (by simp)).trans (heap_alloc_new w _))
 have b1:w'.heap[w.heap.size+1]?=some (.cells #[.int .i64 0,.int .i64 0,.int .i64 0,.int .i64 0] 134 (0,0)):=(hg.block _ (by simp) (by simp)).trans (gG (by simp))
 have c0:w'.cell? ⟨w.heap.size,0,none⟩=some (.int .i64 a0):=by rw[cell_of_row _ _ _ _ _ _ b0];rfl
 have c1:w'.cell? ⟨w.heap.size,1,none⟩=some (.int .i64 a1):=by rw[cell_of_row _ _ _ _ _ _ b0];rfl
 have c2:w'.cell? ⟨w.heap.size,2,none⟩=some (.int .i64 a2):=by rw[cell_of_row _ _ _ _ _ _ b0];rfl
 have c3:w'.cell? ⟨w.heap.size,3,none⟩=some (.int .i64 a3):=by rw[cell_of_row _ _ _ _ _ _ b0];rfl
 have r0:w'.cell? ⟨w.heap.size+1,0,none⟩=some (.int .i64 0):=by rw[cell_of_row _ _ _ _ _ _ b1];rfl
 have r1:w'.cell? ⟨w.heap.size+1,1,none⟩=some (.int .i64 0):=by rw[cell_of_row _ _ _ _ _ _ b1];rfl
 have r2:w'.cell? ⟨w.heap.size+1,2,none⟩=some (.int .i64 0):=by rw[cell_of_row _ _ _ _ _ _ b1];rfl
 have r3:w'.cell? ⟨w.heap.size+1,3,none⟩=some (.int .i64 0):=by rw[cell_of_row _ _ _ _ _ _ b1];rfl
 have y3:=ai b0 3
 have z0:=ai b1 0
 have z1:=ai b1 1
 have z2:=ai b1 2
 have z3:=ai b1 3
 have HG:Hid (w.grownBy w' none):=af (ae (ab (ab (ag _ _) _) _) hg)
 have HB1:=af b1
 clear hg b0 b1 HOF
 go_wp2
 refine bodyPost_ret (aO Tryz.results146 rfl (ah (ah (ah (ah ((Below.heap_setCell _ _ _ _ (by simp)).trans HB1.out) _ _) _ _) _ _) _ _) Tryz.underlying134 rfl (by kernel_rfl) rfl) rfl ⟨rfl,?_⟩
 exact aj (aj (aj (aj (aj HG.out (.inr (by simp)) _) (.inr (by simp)) _) (.inr (by simp)) _) (.inr (by simp)) _) (.inr (by simp)) _
theorem wZ (a0 a1 a2 a3 d:Int)(w:World):
  Calls Tryz.prog 146 #[.agg #[.int .i64 a0,.int .i64 a1,.int .i64 a2,.int .i64 a3],.int .u8 95,.int .i64 d] w fun r w'=>r=.returned (.tuple #[.agg #[.int .i64 a0,.int .i64 a1,.int .i64 a2,.int .i64 a3],.bool true])∧w.grownBy w' none:=by
 go_enter Tryz.func146,Tryz.ntmps146
 go_wp2
 refine bodyPost_ret (aO Tryz.results146 rfl (gG (by simp)) Tryz.underlying134 rfl (by kernel_rfl) rfl) rfl ⟨rfl,ab (ab (ag _ _) _) _⟩
theorem sj (e:fq)(t d:Int)(w:World)(h0:0≤t)(h1:t≤255)(ht:c7 t=true)(he:∀ n v,e n=some v→0≤v∧v≤9):
  Calls Tryz.prog 146 #[fG e,.int .u8 t,.int .i64 d] w fun r w'=>r=.returned (D7 e t d)∧w.grownBy w' none:=by
 by_cases h95:t=95
 ·subst h95
  have HU:D7 e 95 d=.tuple #[fG e,.bool true]:=by simp[D7,jK]
  rw[HU]
  exact wZ _ _ _ _ d w
 ·have hsim:bd t=true:=by simpa [c7,h95] using ht
  have HOF:Hid (∀ W,Calls Tryz.prog 139 #[fG e,.int .u8 t] W fun r w'=>r=.returned (.int .i64 (fF (-1) e t))∧W.grownBy w' none):=af (fun W=>oX e t W h0 h1 hsim)
  have n95:(t==95)=false:=by simpa using h95
  have same:∀ v:Int,fF (-1) e t=v→0≤v→D7 e t d=.tuple #[fG e,.bool (v==d)]→Calls Tryz.prog 146 #[fG e,.int .u8 t,.int .i64 d] w fun r w'=>r=.returned (D7 e t d)∧w.grownBy w' none:=by
   intro v hv hv0 hg
   rw[hg]
   rw[hv] at HOF
   exact zw _ _ _ _ t d v w n95 (by simp;omega) HOF
  cases hd:bM t with
  |true=>
   have hb:48≤t∧t≤57:=by simpa [bM] using hd
   refine same (t - 48) (by unfold fF;rw[hd];rfl) (by omega) ?_
   unfold D7 jK
   rw[if_neg h95,if_pos hd]
   by_cases hvd:t - 48=d
   ·rw[if_pos hvd];simp[hvd]
   ·rw[if_neg hvd];simp[hvd]
  |false=>
   have hl:ex t=true:=by simpa [bd,hd] using hsim
   have hof:fF (-1) e t=eI e (t - 119).toNat:=by unfold fF;rw[hd];rfl
   cases hen:e (t - 119).toNat with
   |some v=>
    have hv:=he _ v hen
    refine same v (by rw[hof];unfold eI;rw[hen];rfl) hv.1 ?_
    unfold D7 jK
    rw[if_neg h95,if_neg (by simp[hd])]
    simp only[hen]
    by_cases hvd:v=d
    ·rw[if_pos hvd];simp[hvd]
    ·rw[if_neg hvd];simp[hvd]
   |none=>
    have hgo:jK e t d=some (cG e (t - 119).toNat (some d)):=by
     unfold jK
     rw[if_neg h95,if_neg (by simp[hd])]
     simp only[hen]
    have hg:D7 e t d=.tuple #[fG (cG e (t - 119).toNat (some d)),.bool true]:=by unfold D7;rw[hgo];rfl
    have hm:fF (-1) e t=-1:=by rw[hof];unfold eI;rw[hen];rfl
    rw[hm] at HOF
    rw[hg]
    unfold fG
    simp only[Gg]
    rcases sC hl with rfl|rfl|rfl|rfl
    ·exact A0 _ _ _ _ d w HOF
    ·exact Av _ _ _ _ d w HOF
    ·exact Be _ _ _ _ d w HOF
    ·exact Ag _ _ _ _ d w HOF
theorem eB {w:World}{b c:Nat}(h:b≠c)(i j:Nat)(u:Value):(w.setCell ⟨c,j,none⟩ u).cell? ⟨b,i,none⟩=w.cell? ⟨b,i,none⟩:=World.cell?_setCell_other _ _ _ _ (by intro e;injection e with e1 e2;omega)
theorem cO {w:World}{b:Nat}(h:b<w.heap.size)(i:Nat)(o:Obj):(w.alloc o).cell? ⟨b,i,none⟩=w.cell? ⟨b,i,none⟩:=World.cell?_alloc_lt _ _ _ (by simpa using h)
structure ug (u:ByteArray)(c t1 t2:Int):Prop where
 size:3≤u.size
 c0:bt u 0=c
 c1:bt u 1=t1
 c2:bt u 2=t2
theorem uX {q:aw}(hq:q.1<60∧0≤q.2.1∧q.2.1≤9):ug (cq q.1 q.2.1) (97+(q.1:Int) / 10) (48+(q.1:Int) % 10) (48+q.2.1):=by
 have h1:=hq.1
 have h2:=hq.2.1
 have h3:=hq.2.2
 have hsz:(cq q.1 q.2.1).size=3:=rfl
 have key:∀ x:Int,0≤x→x≤255→((UInt8.ofNat x.toNat).toNat:Int)=x:=fun x a b=>by
  rw[UInt8.toNat_ofNat']
  omega
 refine⟨by omega,?_,?_,?_⟩
 ·rw[bh (by omega)]
  exact key _ (by omega) (by omega)
 ·rw[bh (by omega)]
  exact key _ (by omega) (by omega)
 ·rw[bh (by omega)]
  exact key _ (by omega) (by omega)
theorem bG {w w':World}(h:Fr [] w w'):w.grownBy w' none:=⟨h.os,h.tape,h.output,h.size,fun k hk _=>h.block k hk (by simp)⟩
theorem lD {W w:World}(h:Fr [] W w)(x0 x1 x2 x3:Value):Fr [] W ((((w.setCell ⟨W.heap.size,0,none⟩ x0).setCell ⟨W.heap.size,1,none⟩ x1).setCell ⟨W.heap.size,2,none⟩ x2).setCell ⟨W.heap.size,3,none⟩ x3):=
 (((h.set (.inr (by simp)) _).set (.inr (by simp)) _).set (.inr (by simp)) _).set (.inr (by simp)) _
theorem AV (a0 a1 a2 a3 f0 f1 f2 f3 g0 g1 g2 g3:Int)(oka okb:Bool)(u v:ByteArray)(c t1 t2 x y:Int)(w:World)(hu:3≤u.size)(hv:3≤v.size)
  (hu0:bt u 0=c) (hu1:bt u 1=t1) (hu2:bt u 2=t2) (hv0:bt v 0=c) (hv1:bt v 1=48+x) (hv2:bt v 2=48+y) (hx:0≤x∧x≤9) (hy:0≤y∧y≤9) (hul:u.size≤400) (hvl:v.size≤400)
  (H1:Hid (∀ W,Calls Tryz.prog 146 #[.agg #[.int .i64 a0,.int .i64 a1,.int .i64 a2,.int .i64 a3],.int .u8 t1,.int .i64 x] W fun r w'=>r=.returned (.tuple #[.agg #[.int .i64 f0,.int .i64 f1,.int .i64 f2,.int .i64 f3],.bool oka])∧W.grownBy w' none))
  (H2:Hid (∀ W,Calls Tryz.prog 146 #[.agg #[.int .i64 f0,.int .i64 f1,.int .i64 f2,.int .i64 f3],.int .u8 t2,.int .i64 y] W fun r w'=>r=.returned (.tuple #[.agg #[.int .i64 g0,.int .i64 g1,.int .i64 g2,.int .i64 g3],.bool okb])∧W.grownBy w' none)) :
  Calls Tryz.prog 137 #[.agg #[.int .i64 a0,.int .i64 a1,.int .i64 a2,.int .i64 a3],.string u,.string v] w fun r w'=>r=.returned (.tuple #[.agg #[.int .i64 g0,.int .i64 g1,.int .i64 g2,.int .i64 g3],.bool (oka&&okb)])∧w.grownBy w' none:=by
 have s0:0<u.size:=by omega
 have s1:1<u.size:=by omega
 have s2:2<u.size:=by omega
 have s3:0<v.size:=by omega
 have s4:1<v.size:=by omega
 have s5:2<v.size:=by omega
 have u0:((u[0]'s0).toNat:Int)=c:=by rw[←hu0,bh s0]
 have u1:((u[1]'s1).toNat:Int)=t1:=by rw[←hu1,bh s1]
 have u2:((u[2]'s2).toNat:Int)=t2:=by rw[←hu2,bh s2]
 have v0:((v[0]'s3).toNat:Int)=c:=by rw[←hv0,bh s3]
 have v1:((v[1]'s4).toNat:Int)=48+x:=by rw[←hv1,bh s4]
 have v2:((v[2]'s5).toNat:Int)=48+y:=by rw[←hv2,bh s5]
 have qq:(c != c)=false:=by simp
 have hwx:Value.int .i64 (IntKind.i64.wrap (IntKind.u8.wrap (48+x - 48)))=Value.int .i64 x:=by rw[show (48+x - 48:Int)=x by omega,Go.IntWalk.u8_in x (by omega),Go.IntWalk.i64_in x (by omega)]
 have hwy:Value.int .i64 (IntKind.i64.wrap (IntKind.u8.wrap (48+y - 48)))=Value.int .i64 y:=by rw[show (48+y - 48:Int)=y by omega,Go.IntWalk.u8_in y (by omega),Go.IntWalk.i64_in y (by omega)]
 have HWX:=af hwx
 have HWY:=af hwy
 have HWX2:Hid (Value.int .i64 (48+x - 48)=Value.int .i64 x):=af (by rw[show (48+x - 48:Int)=x by omega])
 have HWY2:Hid (Value.int .i64 (48+y - 48)=Value.int .i64 y):=af (by rw[show (48+y - 48:Int)=y by omega])
 clear hwx hwy
 clear hu0 hu1 hu2 hv0 hv1 hv2
 go_enter Tryz.func137,Tryz.ntmps137
 go_wp2_with fail
 go_quiet ((fail))
 go_wp2_with fail
 generalize hW0:World.drewN _ _=W0
 have HW0:Hid (w.grownBy W0 none∧W0.heap.size=w.heap.size+2∧W0.heap[w.heap.size]?=some (.cells #[.int .i64 a0,.int .i64 a1,.int .i64 a2,.int .i64 a3] 134 (0,0))∧W0.heap[w.heap.size+1]?=some (.cells #[.int .i64 0,.int .i64 0,.int .i64 0,.int .i64 0] 134 (0,0))):=af (by
  rw[←hW0]
  exact⟨al (ab (ab (ag _ _) _) _) _,by simp[World.drewN],(Below.heap_alloc _ _ _ (by simp)).trans (heap_alloc_new w _),gG (by simp)⟩)
 clear hW0
 have hsz:=HW0.out.2.1
 have k0:W0.cell? ⟨w.heap.size,0,none⟩=some (.int .i64 a0):=by rw[cell_of_row _ _ _ _ _ _ HW0.out.2.2.1];rfl
 have k1:W0.cell? ⟨w.heap.size,1,none⟩=some (.int .i64 a1):=by rw[cell_of_row _ _ _ _ _ _ HW0.out.2.2.1];rfl
 have k2:W0.cell? ⟨w.heap.size,2,none⟩=some (.int .i64 a2):=by rw[cell_of_row _ _ _ _ _ _ HW0.out.2.2.1];rfl
 have k3:W0.cell? ⟨w.heap.size,3,none⟩=some (.int .i64 a3):=by rw[cell_of_row _ _ _ _ _ _ HW0.out.2.2.1];rfl
 have HKEEP:Hid (∀ w2,Fr [] W0 w2→w2.heap[w.heap.size+1]?=some (.cells #[.int .i64 0,.int .i64 0,.int .i64 0,.int .i64 0] 134 (0,0))):=af (fun w2 h=>(h.block _ (by omega) (by simp)).trans HW0.out.2.2.2)
 have HGRO:Hid (∀ w2,Fr [] W0 w2→w.grownBy w2 none):=af (fun w2 h=>ae HW0.out.1 (bG h))
 have HKEEP4:Hid (∀ w2,Fr [] W0 w2→∀ x0 x1 x2 x3,((((w2.setCell ⟨W0.heap.size,0,none⟩ x0).setCell ⟨W0.heap.size,1,none⟩ x1).setCell ⟨W0.heap.size,2,none⟩ x2).setCell ⟨W0.heap.size,3,none⟩ x3).heap[w.heap.size+1]?=some (.cells #[.int .i64 0,.int .i64 0,.int .i64 0,.int .i64 0] 134 (0,0))):=af (fun w2 h x0 x1 x2 x3=>HKEEP.out _ (lD h x0 x1 x2 x3))
 have HGRO4:Hid (∀ w2,Fr [] W0 w2→∀ x0 x1 x2 x3,w.grownBy ((((w2.setCell ⟨W0.heap.size,0,none⟩ x0).setCell ⟨W0.heap.size,1,none⟩ x1).setCell ⟨W0.heap.size,2,none⟩ x2).setCell ⟨W0.heap.size,3,none⟩ x3) none):=af (fun w2 h x0 x1 x2 x3=>HGRO.out _ (lD h x0 x1 x2 x3))
 have HBW:Hid (w.heap.size≤w.heap.size+1):=af (by omega)
 obtain⟨b,hb⟩:∃ b,b=w.heap.size:=⟨_,rfl⟩
 rw[←hb] at hsz k0 k1 k2 k3 HKEEP HKEEP4 ⊢
 have HBW:Hid (w.heap.size≤b+1):=af (by omega)
 clear hb
 have nb:b≠W0.heap.size:=by omega
 have nb1:b<W0.heap.size:=by omega
 clear hsz HW0
 go_cut [8,9] from 18 to 28 (fun p o wx=>∃ g,p=.pointer (some ⟨g,0,none⟩)∧o=.bool oka∧wx.heap[g]?=some (.cells #[.int .i64 f0,.int .i64 f1,.int .i64 f2,.int .i64 f3] 134 (0,0))∧wx.heap[b+1]?=some (.cells #[.int .i64 0,.int .i64 0,.int .i64 0,.int .i64 0] 134 (0,0))∧w.grownBy wx none)
 case first=>
  go_region_held3 (fun W=>W.cell? ⟨b,0,none⟩=some (.int .i64 a0)∧W.cell? ⟨b,1,none⟩=some (.int .i64 a1)∧W.cell? ⟨b,2,none⟩=some (.int .i64 a2)∧W.cell? ⟨b,3,none⟩=some (.int .i64 a3)) (first|(with_reducible exact⟨m0,m1,m2,m3⟩)|(simp only[World.cell?_drew];with_reducible exact⟨k0,k1,k2,k3⟩)|(simp only[World.cell?_drew,cO nb1];with_reducible exact⟨k0,k1,k2,k3⟩)|(simp only[cO nbw];with_reducible exact⟨m0,m1,m2,m3⟩)|(simp only[eB nb];with_reducible exact⟨m0,m1,m2,m3⟩)) (first
   |(go_at_call 146
     first|rw[HWX.out]|rw[HWX2.out]|skip
     refine (H1.out _).mono ?_
     rintro e w1 ⟨rfl,hg1⟩
     have hfr1:Fr [] W0 w1:=by first|exact (ar (Fr.refl [] W0)).trans (aK hg1)|exact (ar (aA W0 _)).trans (aK hg1)|exact ((ar (Fr.refl [] W0)).alloc _).trans (aK hg1)
     have nbw:b<w1.heap.size:=Nat.lt_of_lt_of_le nb1 hfr1.size
     have m0:=aE hfr1 k0
     have m1:=aE hfr1 k1
     have m2:=aE hfr1 k2
     have m3:=aE hfr1 k3
     have HF1:=af hfr1
     clear hfr1
     try (
      have hnew:w1.heap[W0.heap.size]?=some (.cells #[.int .i64 0,.int .i64 0,.int .i64 0,.int .i64 0] 134 (0,0)):=(hg1.block W0.heap.size (by simp) (by simp)).trans (heap_alloc_new _ _)
      have n0:w1.cell? ⟨W0.heap.size,0,none⟩=some (.int .i64 0):=by rw[cell_of_row _ _ _ _ _ _ hnew];rfl
      have n1:w1.cell? ⟨W0.heap.size,1,none⟩=some (.int .i64 0):=by rw[cell_of_row _ _ _ _ _ _ hnew];rfl
      have n2:w1.cell? ⟨W0.heap.size,2,none⟩=some (.int .i64 0):=by rw[cell_of_row _ _ _ _ _ _ hnew];rfl
      have n3:w1.cell? ⟨W0.heap.size,3,none⟩=some (.int .i64 0):=by rw[cell_of_row _ _ _ _ _ _ hnew];rfl
      have z0:=ai hnew 0
      have z1:=ai hnew 1
      have z2:=ai hnew 2
      have z3:=ai hnew 3
      have HNEW:=af hnew
      clear hnew)
     clear hg1))
  all_goals go_wp2_with fail
  all_goals go_meet
  all_goals first
   |exact⟨W0.heap.size,rfl,rfl,ah (ah (ah (ah HNEW.out _ _) _ _) _ _) _ _,HKEEP4.out _ HF1.out _ _ _ _,HGRO4.out _ HF1.out _ _ _ _⟩
   |exact⟨w1.heap.size,rfl,rfl,heap_alloc_new w1 _,HKEEP.out _ (HF1.out.alloc _),HGRO.out _ (HF1.out.alloc _)⟩
 case rest=>
 obtain⟨g,rfl,rfl,hgf,hgz,hgw⟩:=hcut
 clear k0 k1 k2 k3 nb nb1 HKEEP HGRO HKEEP4 HGRO4 H1
 have k0:wc.cell? ⟨g,0,none⟩=some (.int .i64 f0):=by rw[cell_of_row _ _ _ _ _ _ hgf];rfl
 have k1:wc.cell? ⟨g,1,none⟩=some (.int .i64 f1):=by rw[cell_of_row _ _ _ _ _ _ hgf];rfl
 have k2:wc.cell? ⟨g,2,none⟩=some (.int .i64 f2):=by rw[cell_of_row _ _ _ _ _ _ hgf];rfl
 have k3:wc.cell? ⟨g,3,none⟩=some (.int .i64 f3):=by rw[cell_of_row _ _ _ _ _ _ hgf];rfl
 clear W0
 generalize wc=W0 at*
 have nb1:=lt_of_block hgf
 have nb:g≠W0.heap.size:=by omega
 have HKEEP:Hid (∀ w2,Fr [] W0 w2→w2.heap[b+1]?=some (.cells #[.int .i64 0,.int .i64 0,.int .i64 0,.int .i64 0] 134 (0,0))):=af (fun w2 h=>(h.block _ (lt_of_block hgz) (by simp)).trans hgz)
 have HGRO:Hid (∀ w2,Fr [] W0 w2→w.grownBy w2 none):=af (fun w2 h=>ae hgw (bG h))
 have HKEEP4:Hid (∀ w2,Fr [] W0 w2→∀ x0 x1 x2 x3,((((w2.setCell ⟨W0.heap.size,0,none⟩ x0).setCell ⟨W0.heap.size,1,none⟩ x1).setCell ⟨W0.heap.size,2,none⟩ x2).setCell ⟨W0.heap.size,3,none⟩ x3).heap[b+1]?=some (.cells #[.int .i64 0,.int .i64 0,.int .i64 0,.int .i64 0] 134 (0,0))):=af (fun w2 h x0 x1 x2 x3=>HKEEP.out _ (lD h x0 x1 x2 x3))
 have HGRO4:Hid (∀ w2,Fr [] W0 w2→∀ x0 x1 x2 x3,w.grownBy ((((w2.setCell ⟨W0.heap.size,0,none⟩ x0).setCell ⟨W0.heap.size,1,none⟩ x1).setCell ⟨W0.heap.size,2,none⟩ x2).setCell ⟨W0.heap.size,3,none⟩ x3) none):=af (fun w2 h x0 x1 x2 x3=>HGRO.out _ (lD h x0 x1 x2 x3))
 clear hgf hgz hgw
 go_wp2_with fail
 go_cut [10,11] from 29 to 39 (fun p o wx=>∃ g,p=.pointer (some ⟨g,0,none⟩)∧o=.bool okb∧wx.heap[g]?=some (.cells #[.int .i64 g0,.int .i64 g1,.int .i64 g2,.int .i64 g3] 134 (0,0))∧wx.heap[b+1]?=some (.cells #[.int .i64 0,.int .i64 0,.int .i64 0,.int .i64 0] 134 (0,0))∧w.grownBy wx none)
 case first=>
  go_region_held3 (fun W=>W.cell? ⟨g,0,none⟩=some (.int .i64 f0)∧W.cell? ⟨g,1,none⟩=some (.int .i64 f1)∧W.cell? ⟨g,2,none⟩=some (.int .i64 f2)∧W.cell? ⟨g,3,none⟩=some (.int .i64 f3)) (first|(with_reducible exact⟨m0,m1,m2,m3⟩)|(simp only[World.cell?_drew];with_reducible exact⟨k0,k1,k2,k3⟩)|(simp only[World.cell?_drew,cO nb1];with_reducible exact⟨k0,k1,k2,k3⟩)|(simp only[cO nbw];with_reducible exact⟨m0,m1,m2,m3⟩)|(simp only[eB nb];with_reducible exact⟨m0,m1,m2,m3⟩)) (first
   |(go_at_call 146
     first|rw[HWY.out]|rw[HWY2.out]|skip
     refine (H2.out _).mono ?_
     rintro e w1 ⟨rfl,hg1⟩
     have hfr1:Fr [] W0 w1:=by first|exact (ar (Fr.refl [] W0)).trans (aK hg1)|exact (ar (aA W0 _)).trans (aK hg1)|exact ((ar (Fr.refl [] W0)).alloc _).trans (aK hg1)
     have nbw:g<w1.heap.size:=Nat.lt_of_lt_of_le nb1 hfr1.size
     have m0:=aE hfr1 k0
     have m1:=aE hfr1 k1
     have m2:=aE hfr1 k2
     have m3:=aE hfr1 k3
     have HF1:=af hfr1
     clear hfr1
     try (
      have hnew:w1.heap[W0.heap.size]?=some (.cells #[.int .i64 0,.int .i64 0,.int .i64 0,.int .i64 0] 134 (0,0)):=(hg1.block W0.heap.size (by simp) (by simp)).trans (heap_alloc_new _ _)
      have n0:w1.cell? ⟨W0.heap.size,0,none⟩=some (.int .i64 0):=by rw[cell_of_row _ _ _ _ _ _ hnew];rfl
      have n1:w1.cell? ⟨W0.heap.size,1,none⟩=some (.int .i64 0):=by rw[cell_of_row _ _ _ _ _ _ hnew];rfl
      have n2:w1.cell? ⟨W0.heap.size,2,none⟩=some (.int .i64 0):=by rw[cell_of_row _ _ _ _ _ _ hnew];rfl
      have n3:w1.cell? ⟨W0.heap.size,3,none⟩=some (.int .i64 0):=by rw[cell_of_row _ _ _ _ _ _ hnew];rfl
      have z0:=ai hnew 0
      have z1:=ai hnew 1
      have z2:=ai hnew 2
      have z3:=ai hnew 3
      have HNEW:=af hnew
      clear hnew)
     clear hg1))
  all_goals go_wp2_with fail
  all_goals go_meet
  all_goals first
   |exact⟨W0.heap.size,rfl,rfl,ah (ah (ah (ah HNEW.out _ _) _ _) _ _) _ _,HKEEP4.out _ HF1.out _ _ _ _,HGRO4.out _ HF1.out _ _ _ _⟩
   |exact⟨w1.heap.size,rfl,rfl,heap_alloc_new w1 _,HKEEP.out _ (HF1.out.alloc _),HGRO.out _ (HF1.out.alloc _)⟩
 case rest=>
 obtain⟨q,rfl,rfl,hgf,hgz,hgw⟩:=hcut
 clear k0 k1 k2 k3 nb nb1 HKEEP HGRO HKEEP4 HGRO4 H2
 have c0:wc.cell? ⟨q,0,none⟩=some (.int .i64 g0):=by rw[cell_of_row _ _ _ _ _ _ hgf];rfl
 have c1:wc.cell? ⟨q,1,none⟩=some (.int .i64 g1):=by rw[cell_of_row _ _ _ _ _ _ hgf];rfl
 have c2:wc.cell? ⟨q,2,none⟩=some (.int .i64 g2):=by rw[cell_of_row _ _ _ _ _ _ hgf];rfl
 have c3:wc.cell? ⟨q,3,none⟩=some (.int .i64 g3):=by rw[cell_of_row _ _ _ _ _ _ hgf];rfl
 have r0:wc.cell? ⟨b+1,0,none⟩=some (.int .i64 0):=by rw[cell_of_row _ _ _ _ _ _ hgz];rfl
 have r1:wc.cell? ⟨b+1,1,none⟩=some (.int .i64 0):=by rw[cell_of_row _ _ _ _ _ _ hgz];rfl
 have r2:wc.cell? ⟨b+1,2,none⟩=some (.int .i64 0):=by rw[cell_of_row _ _ _ _ _ _ hgz];rfl
 have r3:wc.cell? ⟨b+1,3,none⟩=some (.int .i64 0):=by rw[cell_of_row _ _ _ _ _ _ hgz];rfl
 have z0:=ai hgz 0
 have z1:=ai hgz 1
 have z2:=ai hgz 2
 have z3:=ai hgz 3
 have HZ:=af hgz
 have HGW:=af hgw
 clear hgf hgz hgw
 have hnw:w.heap.size≤b+1:=HBW.out
 have HBW2:=af hnw
 clear hnw
 cases oka
 all_goals
  go_wp2_with fail
  refine bodyPost_ret (aO Tryz.results137 rfl (ah (ah (ah (ah HZ.out _ _) _ _) _ _) _ _) Tryz.underlying134 rfl (by kernel_rfl) rfl) rfl ⟨rfl,?_⟩
  exact aj (aj (aj (aj HGW.out (.inr HBW2.out) _) (.inr HBW2.out) _) (.inr HBW2.out) _) (.inr HBW2.out) _
end Go.Proofs.YthlhbjnkohinmaaGreat
