import Derived.Test.YthlhbjnkohinmaaGreatP01
namespace Go.Proofs.YthlhbjnkohinmaaGreat
set_option maxRecDepth 100000
set_option maxHeartbeats 8000000
open Go.RowKit
structure Cd where
 k:Int
 c:Int
 g:Int
 a1:Int
 a2:Int
 b1:Int
 b2:Int
structure Ac where
 k:Int
 c:Int
 a1:Int
 a2:Int
 a3:Int
 b1:Int
 b2:Int
 b3:Int
abbrev Cd.arr (x:Cd):Array Value:=#[.int .i64 x.k,.int .i64 x.c,.int .u8 x.g,.int .i64 x.a1,.int .i64 x.a2,.int .i64 x.b1,.int .i64 x.b2]
abbrev Ac.arr (x:Ac):Array Value:=#[.int .i64 x.k,.int .i64 x.c,.int .i64 x.a1,.int .i64 x.a2,.int .i64 x.a3,.int .i64 x.b1,.int .i64 x.b2,.int .i64 x.b3]
theorem Cx (s:ByteArray)(b i:Nat)(w:World)(hB:s.size≤400∧i≤400)(hr:Rd w b s i)(h:bt s i=33)(x0 x1 x2 x3 x4 x5 x6:Int)(ok:Bool)(j:Nat)(hp:∀ W,Rd W b s (i+1)→Calls Tryz.prog 147 #[.pointer (some ⟨b,0,none⟩),.int .i64 2] W (RP W b s (.tuple #[.agg #[.int .i64 x0,.int .i64 x1,.int .u8 x2,.int .i64 x3,.int .i64 x4,.int .i64 x5,.int .i64 x6],.bool ok]) j)):Calls Tryz.prog 141 #[.pointer (some ⟨b,0,none⟩)] w (RP w b s (.tuple #[.agg #[.int .i64 x0,.int .i64 x1,.int .u8 x2,.int .i64 x3,.int .i64 x4,.int .i64 x5,.int .i64 x6],.bool ok]) (j)):=by
 have hl:=hr.lt
 have hne:w.heap.size≠b:=by omega
 have hs:=hB.1
 have H:Hid (bt s i=33):=h
 clear h
 go_enter Tryz.func141,Tryz.ntmps141
 go_wp2_with fail
 go_at_call 123
 refine (eL s b i _ hB (hr.alloc _) 33 H.out).mono ?_
 rintro e w1 ⟨rfl,hr1,hg1⟩
 obtain⟨⟨hc1,hf1⟩,hn1,hzw1,hyw1,hxw1,hk1⟩:=nx hr1 hg1 (by omega)
 go_wp2_with fail
 go_at_call 147
 refine (hp _ (by with_reducible repeat' (first|assumption|refine Rd.alloc ?_ _|refine Rd.drewN ?_ _|refine Rd.step ?_|refine Rd.other ?_ ?_ _|(simp;omega)))).mono ?_
 rintro e w2 ⟨rfl,hr2,hg2⟩
 obtain⟨hc2,hf2⟩:=cL hg2
 have hn2:w2.heap.size≠b:=by have:=hr2.lt;omega
 have hzw2:w.heap.size<w2.heap.size:=by have:=hg2.size;(try simp at this);omega
 have hyw2:=Nat.le_of_lt hzw2
 have hxw2:=Nat.ne_of_lt hzw2
 have hk2:=af ((hg2.block w.heap.size (by (try simp);omega) (by simp;omega)).trans hk1.out)
 go_wp2
 refine bodyPost_ret (v:=.tuple #[.agg #[.int .i64 x0,.int .i64 x1,.int .u8 x2,.int .i64 x3,.int .i64 x4,.int .i64 x5,.int .i64 x6],.bool ok]) (aO Tryz.results141 rfl (bk 6 (bk 5 (bk 4 (bk 3 (bk 2 (bk 1 (bk 0 hk2.out))))))) Tryz.underlying206 rfl (by kernel_rfl) rfl) rfl ⟨rfl,?_,?_⟩
 ·with_reducible repeat' (first|assumption|refine Rd.alloc ?_ _|refine Rd.drewN ?_ _|refine Rd.step ?_|refine Rd.other ?_ ?_ _|(simp;omega))
 ·with_reducible repeat' (first|assumption|exact ag _ _|refine aj ?_ ?_ _|refine ab ?_ _|refine al ?_ _|refine ae ?_ (by assumption)|(right;simp;done)|(right;simp;omega)|(left;rfl))
theorem DU (s:ByteArray)(b i:Nat)(w:World)(hB:s.size≤400∧i≤400)(hr:Rd w b s i)(h:¬bt s i=33)(h1:aR (bt s i)=true)(x0 x1 x2 x3 x4 x5 x6:Int)(ok:Bool)(j:Nat)(hp:∀ W,Rd W b s (i)→Calls Tryz.prog 147 #[.pointer (some ⟨b,0,none⟩),.int .i64 1] W (RP W b s (.tuple #[.agg #[.int .i64 x0,.int .i64 x1,.int .u8 x2,.int .i64 x3,.int .i64 x4,.int .i64 x5,.int .i64 x6],.bool ok]) j)):Calls Tryz.prog 141 #[.pointer (some ⟨b,0,none⟩)] w (RP w b s (.tuple #[.agg #[.int .i64 x0,.int .i64 x1,.int .u8 x2,.int .i64 x3,.int .i64 x4,.int .i64 x5,.int .i64 x6],.bool ok]) (j)):=by
 have hl:=hr.lt
 have hne:w.heap.size≠b:=by omega
 have hs:=hB.1
 have H:Hid (¬bt s i=33):=h
 clear h
 have hb:=bU s i
 go_enter Tryz.func141,Tryz.ntmps141
 go_wp2_with fail
 go_at_call 123
 refine (dj s b i _ hB (hr.alloc _) 33 H.out).mono ?_
 rintro e w1 ⟨rfl,hr1,hg1⟩
 obtain⟨⟨hc1,hf1⟩,hn1,hzw1,hyw1,hxw1,hk1⟩:=nx hr1 hg1 (by omega)
 go_wp2_with fail
 go_at_call 140
 refine (eP s b i _ hs hr1).mono ?_
 rintro e w' ⟨rfl,n,rfl⟩
 go_wp2_with fail
 go_at_call 82
 refine (me _ _ hb.1 hb.2 h1).mono ?_
 rintro e w' ⟨rfl,rfl⟩
 go_wp2_with fail
 go_at_call 147
 refine (hp _ (by with_reducible repeat' (first|assumption|refine Rd.alloc ?_ _|refine Rd.drewN ?_ _|refine Rd.step ?_|refine Rd.other ?_ ?_ _|(simp;omega)))).mono ?_
 rintro e w2 ⟨rfl,hr2,hg2⟩
 replace hg2:=cD hg2
 obtain⟨hc2,hf2⟩:=cL hg2
 have hn2:w2.heap.size≠b:=by have:=hr2.lt;omega
 have hzw2:w.heap.size<w2.heap.size:=by have:=hg2.size;(try simp at this);omega
 have hyw2:=Nat.le_of_lt hzw2
 have hxw2:=Nat.ne_of_lt hzw2
 have hk2:=af ((hg2.block w.heap.size (by (try simp);omega) (by simp;omega)).trans hk1.out)
 go_wp2
 refine bodyPost_ret (v:=.tuple #[.agg #[.int .i64 x0,.int .i64 x1,.int .u8 x2,.int .i64 x3,.int .i64 x4,.int .i64 x5,.int .i64 x6],.bool ok]) (aO Tryz.results141 rfl (bk 6 (bk 5 (bk 4 (bk 3 (bk 2 (bk 1 (bk 0 hk2.out))))))) Tryz.underlying206 rfl (by kernel_rfl) rfl) rfl ⟨rfl,?_,?_⟩
 ·with_reducible repeat' (first|assumption|refine Rd.alloc ?_ _|refine Rd.drewN ?_ _|refine Rd.step ?_|refine Rd.other ?_ ?_ _|(simp;omega))
 ·with_reducible repeat' (first|assumption|exact ag _ _|refine aj ?_ ?_ _|refine ab ?_ _|refine al ?_ _|refine ae ?_ (by assumption)|(right;simp;done)|(right;simp;omega)|(left;rfl))
theorem Aw (s:ByteArray)(b i:Nat)(w:World)(hB:s.size≤400∧i≤400)(hr:Rd w b s i)(h:¬bt s i=33)(h1:aR (bt s i)=false)(x0 x1 x2 x3 x4 x5 x6:Int)(ok:Bool)(j:Nat)(hp:∀ W,Rd W b s (i)→Calls Tryz.prog 148 #[.pointer (some ⟨b,0,none⟩)] W (RP W b s (.tuple #[.agg #[.int .i64 x0,.int .i64 x1,.int .u8 x2,.int .i64 x3,.int .i64 x4,.int .i64 x5,.int .i64 x6],.bool ok]) j)):Calls Tryz.prog 141 #[.pointer (some ⟨b,0,none⟩)] w (RP w b s (.tuple #[.agg #[.int .i64 x0,.int .i64 x1,.int .u8 x2,.int .i64 x3,.int .i64 x4,.int .i64 x5,.int .i64 x6],.bool ok]) (j)):=by
 have hl:=hr.lt
 have hne:w.heap.size≠b:=by omega
 have hs:=hB.1
 have H:Hid (¬bt s i=33):=h
 clear h
 have hb:=bU s i
 go_enter Tryz.func141,Tryz.ntmps141
 go_wp2_with fail
 go_at_call 123
 refine (dj s b i _ hB (hr.alloc _) 33 H.out).mono ?_
 rintro e w1 ⟨rfl,hr1,hg1⟩
 obtain⟨⟨hc1,hf1⟩,hn1,hzw1,hyw1,hxw1,hk1⟩:=nx hr1 hg1 (by omega)
 go_wp2_with fail
 go_at_call 140
 refine (eP s b i _ hs hr1).mono ?_
 rintro e w' ⟨rfl,n,rfl⟩
 go_wp2_with fail
 go_at_call 82
 refine (on _ _ hb.1 hb.2 h1).mono ?_
 rintro e w' ⟨rfl,rfl⟩
 go_wp2_with fail
 go_at_call 148
 refine (hp _ (by with_reducible repeat' (first|assumption|refine Rd.alloc ?_ _|refine Rd.drewN ?_ _|refine Rd.step ?_|refine Rd.other ?_ ?_ _|(simp;omega)))).mono ?_
 rintro e w2 ⟨rfl,hr2,hg2⟩
 replace hg2:=cD hg2
 obtain⟨hc2,hf2⟩:=cL hg2
 have hn2:w2.heap.size≠b:=by have:=hr2.lt;omega
 have hzw2:w.heap.size<w2.heap.size:=by have:=hg2.size;(try simp at this);omega
 have hyw2:=Nat.le_of_lt hzw2
 have hxw2:=Nat.ne_of_lt hzw2
 have hk2:=af ((hg2.block w.heap.size (by (try simp);omega) (by simp;omega)).trans hk1.out)
 go_wp2
 refine bodyPost_ret (v:=.tuple #[.agg #[.int .i64 x0,.int .i64 x1,.int .u8 x2,.int .i64 x3,.int .i64 x4,.int .i64 x5,.int .i64 x6],.bool ok]) (aO Tryz.results141 rfl (bk 6 (bk 5 (bk 4 (bk 3 (bk 2 (bk 1 (bk 0 hk2.out))))))) Tryz.underlying206 rfl (by kernel_rfl) rfl) rfl ⟨rfl,?_,?_⟩
 ·with_reducible repeat' (first|assumption|refine Rd.alloc ?_ _|refine Rd.drewN ?_ _|refine Rd.step ?_|refine Rd.other ?_ ?_ _|(simp;omega))
 ·with_reducible repeat' (first|assumption|exact ag _ _|refine aj ?_ ?_ _|refine ab ?_ _|refine al ?_ _|refine ae ?_ (by assumption)|(right;simp;done)|(right;simp;omega)|(left;rfl))
theorem Ds (s:ByteArray)(b i:Nat)(w:World)(hB:s.size≤400∧i≤400)(hr:Rd w b s i)(h:bt s i=43)(x0 x1 x2 x3 x4 x5 x6 x7:Int)(ok:Bool)(j:Nat)(hp:∀ W,Rd W b s (i+1)→Calls Tryz.prog 149 #[.pointer (some ⟨b,0,none⟩)] W (RP W b s (.tuple #[.agg #[.int .i64 x0,.int .i64 x1,.int .i64 x2,.int .i64 x3,.int .i64 x4,.int .i64 x5,.int .i64 x6,.int .i64 x7],.bool ok]) j)):Calls Tryz.prog 142 #[.pointer (some ⟨b,0,none⟩)] w (RP w b s (.tuple #[.agg #[.int .i64 x0,.int .i64 x1,.int .i64 x2,.int .i64 x3,.int .i64 x4,.int .i64 x5,.int .i64 x6,.int .i64 x7],.bool ok]) (j)):=by
 have hl:=hr.lt
 have hne:w.heap.size≠b:=by omega
 have hs:=hB.1
 have H:Hid (bt s i=43):=h
 clear h
 go_enter Tryz.func142,Tryz.ntmps142
 go_wp2_with fail
 go_at_call 123
 refine (eL s b i _ hB (hr.alloc _) 43 H.out).mono ?_
 rintro e w1 ⟨rfl,hr1,hg1⟩
 obtain⟨⟨hc1,hf1⟩,hn1,hzw1,hyw1,hxw1,hk1⟩:=nx hr1 hg1 (by omega)
 go_wp2_with fail
 go_at_call 149
 refine (hp _ (by with_reducible repeat' (first|assumption|refine Rd.alloc ?_ _|refine Rd.drewN ?_ _|refine Rd.step ?_|refine Rd.other ?_ ?_ _|(simp;omega)))).mono ?_
 rintro e w2 ⟨rfl,hr2,hg2⟩
 obtain⟨hc2,hf2⟩:=cL hg2
 have hn2:w2.heap.size≠b:=by have:=hr2.lt;omega
 have hzw2:w.heap.size<w2.heap.size:=by have:=hg2.size;(try simp at this);omega
 have hyw2:=Nat.le_of_lt hzw2
 have hxw2:=Nat.ne_of_lt hzw2
 have hk2:=af ((hg2.block w.heap.size (by (try simp);omega) (by simp;omega)).trans hk1.out)
 go_wp2
 refine bodyPost_ret (v:=.tuple #[.agg #[.int .i64 x0,.int .i64 x1,.int .i64 x2,.int .i64 x3,.int .i64 x4,.int .i64 x5,.int .i64 x6,.int .i64 x7],.bool ok]) (aO Tryz.results142 rfl (bk 7 (bk 6 (bk 5 (bk 4 (bk 3 (bk 2 (bk 1 (bk 0 hk2.out)))))))) Tryz.underlying219 rfl (by kernel_rfl) rfl) rfl ⟨rfl,?_,?_⟩
 ·with_reducible repeat' (first|assumption|refine Rd.alloc ?_ _|refine Rd.drewN ?_ _|refine Rd.step ?_|refine Rd.other ?_ ?_ _|(simp;omega))
 ·with_reducible repeat' (first|assumption|exact ag _ _|refine aj ?_ ?_ _|refine ab ?_ _|refine al ?_ _|refine ae ?_ (by assumption)|(right;simp;done)|(right;simp;omega)|(left;rfl))
theorem BA (s:ByteArray)(b i:Nat)(w:World)(hB:s.size≤400∧i≤400)(hr:Rd w b s i)(h:bt s i=45)(x0 x1 x2 x3 x4 x5 x6 x7:Int)(ok:Bool)(j:Nat)(hp:∀ W,Rd W b s (i+1)→Calls Tryz.prog 150 #[.pointer (some ⟨b,0,none⟩)] W (RP W b s (.tuple #[.agg #[.int .i64 x0,.int .i64 x1,.int .i64 x2,.int .i64 x3,.int .i64 x4,.int .i64 x5,.int .i64 x6,.int .i64 x7],.bool ok]) j)):Calls Tryz.prog 142 #[.pointer (some ⟨b,0,none⟩)] w (RP w b s (.tuple #[.agg #[.int .i64 x0,.int .i64 x1,.int .i64 x2,.int .i64 x3,.int .i64 x4,.int .i64 x5,.int .i64 x6,.int .i64 x7],.bool ok]) (j)):=by
 have hl:=hr.lt
 have hne:w.heap.size≠b:=by omega
 have hs:=hB.1
 have H:Hid (bt s i=45):=h
 have H1:Hid (¬bt s i=43):=by intro hx;omega
 clear h
 go_enter Tryz.func142,Tryz.ntmps142
 go_wp2_with fail
 go_at_call 123
 refine (dj s b i _ hB (hr.alloc _) 43 H1.out).mono ?_
 rintro e w1 ⟨rfl,hr1,hg1⟩
 obtain⟨⟨hc1,hf1⟩,hn1,hzw1,hyw1,hxw1,hk1⟩:=nx hr1 hg1 (by omega)
 go_wp2_with fail
 go_at_call 123
 refine (eL s b i _ hB (by with_reducible repeat' (first|assumption|refine Rd.alloc ?_ _|refine Rd.drewN ?_ _|refine Rd.step ?_|refine Rd.other ?_ ?_ _|(simp;omega))) 45 H.out).mono ?_
 rintro e w2 ⟨rfl,hr2,hg2⟩
 obtain⟨hc2,hf2⟩:=cL hg2
 have hn2:w2.heap.size≠b:=by have:=hr2.lt;omega
 have hzw2:w.heap.size<w2.heap.size:=by have:=hg2.size;(try simp at this);omega
 have hyw2:=Nat.le_of_lt hzw2
 have hxw2:=Nat.ne_of_lt hzw2
 have hk2:=af ((hg2.block w.heap.size (by (try simp);omega) (by simp;omega)).trans hk1.out)
 go_wp2_with fail
 go_at_call 150
 refine (hp _ (by with_reducible repeat' (first|assumption|refine Rd.alloc ?_ _|refine Rd.drewN ?_ _|refine Rd.step ?_|refine Rd.other ?_ ?_ _|(simp;omega)))).mono ?_
 rintro e w3 ⟨rfl,hr3,hg3⟩
 obtain⟨hc3,hf3⟩:=cL hg3
 have hn3:w3.heap.size≠b:=by have:=hr3.lt;omega
 have hzw3:w.heap.size<w3.heap.size:=by have:=hg3.size;(try simp at this);omega
 have hyw3:=Nat.le_of_lt hzw3
 have hxw3:=Nat.ne_of_lt hzw3
 have hk3:=af ((hg3.block w.heap.size (by (try simp);omega) (by simp;omega)).trans hk2.out)
 go_wp2
 refine bodyPost_ret (v:=.tuple #[.agg #[.int .i64 x0,.int .i64 x1,.int .i64 x2,.int .i64 x3,.int .i64 x4,.int .i64 x5,.int .i64 x6,.int .i64 x7],.bool ok]) (aO Tryz.results142 rfl (bk 7 (bk 6 (bk 5 (bk 4 (bk 3 (bk 2 (bk 1 (bk 0 hk3.out)))))))) Tryz.underlying219 rfl (by kernel_rfl) rfl) rfl ⟨rfl,?_,?_⟩
 ·with_reducible repeat' (first|assumption|refine Rd.alloc ?_ _|refine Rd.drewN ?_ _|refine Rd.step ?_|refine Rd.other ?_ ?_ _|(simp;omega))
 ·with_reducible repeat' (first|assumption|exact ag _ _|refine aj ?_ ?_ _|refine ab ?_ _|refine al ?_ _|refine ae ?_ (by assumption)|(right;simp;done)|(right;simp;omega)|(left;rfl))
theorem B9 (s:ByteArray)(b i:Nat)(w:World)(hB:s.size≤400∧i≤400)(hr:Rd w b s i)(h:bt s i=46):Calls Tryz.prog 142 #[.pointer (some ⟨b,0,none⟩)] w (RP w b s (.tuple #[.agg #[.int .i64 3,.int .i64 0,.int .i64 0,.int .i64 0,.int .i64 0,.int .i64 0,.int .i64 0,.int .i64 0],.bool true]) (i+1)):=by
 have hl:=hr.lt
 have hne:w.heap.size≠b:=by omega
 have hs:=hB.1
 have H:Hid (bt s i=46):=h
 have H1:Hid (¬bt s i=43):=by intro hx;omega
 have H2:Hid (¬bt s i=45):=by intro hx;omega
 clear h
 go_enter Tryz.func142,Tryz.ntmps142
 go_wp2_with fail
 go_at_call 123
 refine (dj s b i _ hB (hr.alloc _) 43 H1.out).mono ?_
 rintro e w1 ⟨rfl,hr1,hg1⟩
 obtain⟨⟨hc1,hf1⟩,hn1,hzw1,hyw1,hxw1,hk1⟩:=nx hr1 hg1 (by omega)
 go_wp2_with fail
 go_at_call 123
 refine (dj s b i _ hB (by with_reducible repeat' (first|assumption|refine Rd.alloc ?_ _|refine Rd.drewN ?_ _|refine Rd.step ?_|refine Rd.other ?_ ?_ _|(simp;omega))) 45 H2.out).mono ?_
 rintro e w2 ⟨rfl,hr2,hg2⟩
 obtain⟨hc2,hf2⟩:=cL hg2
 have hn2:w2.heap.size≠b:=by have:=hr2.lt;omega
 have hzw2:w.heap.size<w2.heap.size:=by have:=hg2.size;(try simp at this);omega
 have hyw2:=Nat.le_of_lt hzw2
 have hxw2:=Nat.ne_of_lt hzw2
 have hk2:=af ((hg2.block w.heap.size (by (try simp);omega) (by simp;omega)).trans hk1.out)
 go_wp2_with fail
 go_at_call 123
 refine (eL s b i _ hB (by with_reducible repeat' (first|assumption|refine Rd.alloc ?_ _|refine Rd.drewN ?_ _|refine Rd.step ?_|refine Rd.other ?_ ?_ _|(simp;omega))) 46 H.out).mono ?_
 rintro e w3 ⟨rfl,hr3,hg3⟩
 obtain⟨hc3,hf3⟩:=cL hg3
 have hn3:w3.heap.size≠b:=by have:=hr3.lt;omega
 have hzw3:w.heap.size<w3.heap.size:=by have:=hg3.size;(try simp at this);omega
 have hyw3:=Nat.le_of_lt hzw3
 have hxw3:=Nat.ne_of_lt hzw3
 have hk3:=af ((hg3.block w.heap.size (by (try simp);omega) (by simp;omega)).trans hk2.out)
 go_wp2
 refine bodyPost_ret (v:=.tuple #[.agg #[.int .i64 3,.int .i64 0,.int .i64 0,.int .i64 0,.int .i64 0,.int .i64 0,.int .i64 0,.int .i64 0],.bool true]) (aO Tryz.results142 rfl (bk 7 (bk 6 (bk 5 (bk 4 (bk 3 (bk 2 (bk 1 (bk 0 hk3.out)))))))) Tryz.underlying219 rfl (by kernel_rfl) rfl) rfl ⟨rfl,?_,?_⟩
 ·with_reducible repeat' (first|assumption|refine Rd.alloc ?_ _|refine Rd.drewN ?_ _|refine Rd.step ?_|refine Rd.other ?_ ?_ _|(simp;omega))
 ·with_reducible repeat' (first|assumption|exact ag _ _|refine aj ?_ ?_ _|refine ab ?_ _|refine al ?_ _|refine ae ?_ (by assumption)|(right;simp;done)|(right;simp;omega)|(left;rfl))
theorem Dm (s:ByteArray)(b i:Nat)(w:World)(hB:s.size≤400∧i≤400)(hr:Rd w b s i)(h0:¬bt s i=43)(h1:¬bt s i=45)(h2:¬bt s i=46):Calls Tryz.prog 142 #[.pointer (some ⟨b,0,none⟩)] w (RP w b s (.tuple #[.agg #[.int .i64 3,.int .i64 0,.int .i64 0,.int .i64 0,.int .i64 0,.int .i64 0,.int .i64 0,.int .i64 0],.bool false]) (i)):=by
 have hl:=hr.lt
 have hne:w.heap.size≠b:=by omega
 have hs:=hB.1
 have H:Hid (¬bt s i=46):=h2
 have H1:Hid (¬bt s i=43):=h0
 have H2:Hid (¬bt s i=45):=h1
 clear h0 h1 h2
 go_enter Tryz.func142,Tryz.ntmps142
 go_wp2_with fail
 go_at_call 123
 refine (dj s b i _ hB (hr.alloc _) 43 H1.out).mono ?_
 rintro e w1 ⟨rfl,hr1,hg1⟩
 obtain⟨⟨hc1,hf1⟩,hn1,hzw1,hyw1,hxw1,hk1⟩:=nx hr1 hg1 (by omega)
 go_wp2_with fail
 go_at_call 123
 refine (dj s b i _ hB (by with_reducible repeat' (first|assumption|refine Rd.alloc ?_ _|refine Rd.drewN ?_ _|refine Rd.step ?_|refine Rd.other ?_ ?_ _|(simp;omega))) 45 H2.out).mono ?_
 rintro e w2 ⟨rfl,hr2,hg2⟩
 obtain⟨hc2,hf2⟩:=cL hg2
 have hn2:w2.heap.size≠b:=by have:=hr2.lt;omega
 have hzw2:w.heap.size<w2.heap.size:=by have:=hg2.size;(try simp at this);omega
 have hyw2:=Nat.le_of_lt hzw2
 have hxw2:=Nat.ne_of_lt hzw2
 have hk2:=af ((hg2.block w.heap.size (by (try simp);omega) (by simp;omega)).trans hk1.out)
 go_wp2_with fail
 go_at_call 123
 refine (dj s b i _ hB (by with_reducible repeat' (first|assumption|refine Rd.alloc ?_ _|refine Rd.drewN ?_ _|refine Rd.step ?_|refine Rd.other ?_ ?_ _|(simp;omega))) 46 H.out).mono ?_
 rintro e w3 ⟨rfl,hr3,hg3⟩
 obtain⟨hc3,hf3⟩:=cL hg3
 have hn3:w3.heap.size≠b:=by have:=hr3.lt;omega
 have hzw3:w.heap.size<w3.heap.size:=by have:=hg3.size;(try simp at this);omega
 have hyw3:=Nat.le_of_lt hzw3
 have hxw3:=Nat.ne_of_lt hzw3
 have hk3:=af ((hg3.block w.heap.size (by (try simp);omega) (by simp;omega)).trans hk2.out)
 go_wp2
 refine bodyPost_ret (v:=.tuple #[.agg #[.int .i64 3,.int .i64 0,.int .i64 0,.int .i64 0,.int .i64 0,.int .i64 0,.int .i64 0,.int .i64 0],.bool false]) (aO Tryz.results142 rfl (bk 7 (bk 6 (bk 5 (bk 4 (bk 3 (bk 2 (bk 1 (bk 0 hk3.out)))))))) Tryz.underlying219 rfl (by kernel_rfl) rfl) rfl ⟨rfl,?_,?_⟩
 ·with_reducible repeat' (first|assumption|refine Rd.alloc ?_ _|refine Rd.drewN ?_ _|refine Rd.step ?_|refine Rd.other ?_ ?_ _|(simp;omega))
 ·with_reducible repeat' (first|assumption|exact ag _ _|refine aj ?_ ?_ _|refine ab ?_ _|refine al ?_ _|refine ae ?_ (by assumption)|(right;simp;done)|(right;simp;omega)|(left;rfl))
def bu (s:ByteArray)(i:Nat):Nat:=if aR (bt s i) then (if c7 (bt s (i+1)) then (if c7 (bt s (i+2)) then 3 else 2) else 1) else 0
def bS (s:ByteArray)(i:Nat):Nat:=if bd (bt s i) then (if gJ (bt s (i+1)) then (if bd (bt s (i+2)) then 3 else 2) else 1) else 0
def aH (s:ByteArray)(i:Nat):Nat:=if bt s i=33 then 1+bu s (i+1) else if aR (bt s i) then bu s i else bS s i
def b7 (s:ByteArray)(i:Nat):Bool:=if bt s i=33 then bu s (i+1)==3 else if aR (bt s i) then bu s i==3 else bS s i==3
def l8 (kind:Int)(s:ByteArray)(i:Nat):Cd:=⟨kind,bt s i - 97,0,dw (bt s (i+1)),dC (bt s (i+1)),dw (bt s (i+2)),dC (bt s (i+2))⟩
def qX (s:ByteArray)(i:Nat):Cd:=⟨3,0,bt s (i+1),dw (bt s i),dC (bt s i),dw (bt s (i+2)),dC (bt s (i+2))⟩
def dg (s:ByteArray)(i:Nat):Cd:=if bt s i=33 then l8 2 s (i+1) else if aR (bt s i) then l8 1 s i else qX s i
def cQ (s:ByteArray)(i:Nat):Nat:=if aR (bt s i) then (if bd (bt s (i+1)) then (if bd (bt s (c9 s (i+1))) then c9 s (c9 s (i+1)) - i else c9 s (i+1) - i) else 1) else 0
def fJ (s:ByteArray)(i:Nat):Bool:=aR (bt s i)&&bd (bt s (i+1))&&bd (bt s (c9 s (i+1)))
def c8 (s:ByteArray)(i:Nat):Nat:=if aR (bt s i) then (if bd (bt s (i+1)) then c9 s (i+1) - i else 1) else 0
def gq (s:ByteArray)(i:Nat):Bool:=aR (bt s i)&&bd (bt s (i+1))
def aS (s:ByteArray)(i:Nat):Nat:=if bt s i=43 then 1+cQ s (i+1) else if bt s i=45 then 1+c8 s (i+1) else if bt s i=46 then 1 else 0
def cT (s:ByteArray)(i:Nat):Bool:=if bt s i=43 then fJ s (i+1) else if bt s i=45 then gq s (i+1) else bt s i==46
def wU (s:ByteArray)(i:Nat):Ac:=⟨1,bt s i - 97,dw (bt s (i+1)),dC (bt s (i+1)),g9 (bt s (i+1+1)),dw (bt s (c9 s (i+1))),dC (bt s (c9 s (i+1))),g9 (bt s (c9 s (i+1)+1))⟩
def vZ (s:ByteArray)(i:Nat):Ac:=⟨2,bt s i - 97,dw (bt s (i+1)),dC (bt s (i+1)),g9 (bt s (i+1+1)),0,0,0⟩
def dZ (s:ByteArray)(i:Nat):Ac:=if bt s i=43 then wU s (i+1) else if bt s i=45 then vZ s (i+1) else ⟨3,0,0,0,0,0,0,0⟩
theorem ew (s:ByteArray)(i:Nat):i<c9 s i:=by unfold c9;split <;> omega
def Fh:Cd:=⟨0,0,0,0,0,0,0⟩
def FX:Ac:=⟨0,0,0,0,0,0,0,0⟩
def lU (kind:Int)(s:ByteArray)(i:Nat):Cd:=if aR (bt s i) then (if c7 (bt s (i+1)) then (if c7 (bt s (i+2)) then l8 kind s i else ⟨kind,bt s i - 97,0,dw (bt s (i+1)),dC (bt s (i+1)),0,0⟩) else Fh) else Fh
def nR (s:ByteArray)(i:Nat):Cd:=if bd (bt s i) then (if gJ (bt s (i+1)) then (if bd (bt s (i+2)) then qX s i else ⟨3,0,bt s (i+1),dw (bt s i),dC (bt s i),0,0⟩) else Fh) else Fh
def wq (s:ByteArray)(i:Nat):Cd:=if bt s i=33 then lU 2 s (i+1) else if aR (bt s i) then lU 1 s i else nR s i
def oP (s:ByteArray)(i:Nat):Ac:=if aR (bt s i) then (if bd (bt s (i+1)) then (if bd (bt s (c9 s (i+1))) then wU s i else ⟨1,bt s i - 97,dw (bt s (i+1)),dC (bt s (i+1)),g9 (bt s (i+1+1)),0,0,0⟩) else FX) else FX
def rB (s:ByteArray)(i:Nat):Ac:=if aR (bt s i) then (if bd (bt s (i+1)) then vZ s i else ⟨2,bt s i - 97,0,0,0,0,0,0⟩) else FX
def v8 (s:ByteArray)(i:Nat):Ac:=if bt s i=43 then oP s (i+1) else if bt s i=45 then rB s (i+1) else ⟨3,0,0,0,0,0,0,0⟩
theorem yF {kind:Int}{s:ByteArray}{i:Nat}(h:bu s i=3):lU kind s i=l8 kind s i:=by
 unfold bu at h;unfold lU
 split at h
 ·split at h
  ·split at h
   ·simp[*]
   ·omega
  ·omega
 ·omega
theorem Ek {s:ByteArray}{i:Nat}(h:bS s i=3):nR s i=qX s i:=by
 unfold bS at h;unfold nR
 split at h
 ·split at h
  ·split at h
   ·simp[*]
   ·omega
  ·omega
 ·omega
theorem FU {s:ByteArray}{i:Nat}(h:b7 s i=true):wq s i=dg s i:=by
 unfold b7 at h;unfold wq dg
 by_cases h1:bt s i=33
 ·simp only[h1,if_true] at h ⊢;exact yF (by simpa using h)
 ·by_cases h2:aR (bt s i)=true
  ·simp only[h1,h2,if_false,if_true] at h ⊢;exact yF (by simpa using h)
  ·simp only[h1,h2,if_false] at h ⊢;exact Ek (by simpa using h)
theorem Fv {s:ByteArray}{i:Nat}(h:cT s i=true):v8 s i=dZ s i:=by
 unfold cT at h;unfold v8 dZ
 by_cases h1:bt s i=43
 ·simp only[h1,if_true] at h ⊢;simp[fJ] at h;simp[oP,h]
 ·by_cases h2:bt s i=45
  ·simp only[h2,if_true] at h ⊢;simp[gq] at h;simp[rB,h]
  ·simp only[h1,h2,if_false]
theorem yA (s:ByteArray)(b i:Nat)(w:World)(hB:s.size≤400∧i≤400)(hr:Rd w b s i)(kind:Int):Calls Tryz.prog 147 #[.pointer (some ⟨b,0,none⟩),.int .i64 kind] w (RP w b s (.tuple #[.agg (lU kind s i).arr,.bool (bu s i==3)]) (i+bu s i)):=by
 by_cases h0:aR (bt s i)=true
 ·by_cases h1:c7 (bt s (i+1))=true
  ·by_cases h2:c7 (bt s (i+2))=true
   ·have e:bu s i=3:=by simp[bu,h0,h1,h2]
    have e2:lU kind s i=l8 kind s i:=by simp[lU,h0,h1,h2]
    rw[e,e2];exact tY s b i w hB hr kind h0 h1 h2
   ·have h2:c7 (bt s (i+2))=false:=by simpa using h2
    have e:bu s i=2:=by simp[bu,h0,h1,h2]
    have e2:lU kind s i=⟨kind,bt s i - 97,0,dw (bt s (i+1)),dC (bt s (i+1)),0,0⟩:=by simp[lU,h0,h1,h2]
    rw[e,e2];exact ut s b i w hB hr kind h0 h1 h2
  ·have h1:c7 (bt s (i+1))=false:=by simpa using h1
   have e:bu s i=1:=by simp[bu,h0,h1]
   have e2:lU kind s i=Fh:=by simp[lU,h0,h1]
   rw[e,e2];exact vX s b i w hB hr kind h0 h1
 ·have h0:aR (bt s i)=false:=by simpa using h0
  have e:bu s i=0:=by simp[bu,h0]
  have e2:lU kind s i=Fh:=by simp[lU,h0]
  rw[e,e2];exact uh s b i w hB hr kind h0
theorem Ex (s:ByteArray)(b i:Nat)(w:World)(hB:s.size≤400∧i≤400)(hr:Rd w b s i):Calls Tryz.prog 148 #[.pointer (some ⟨b,0,none⟩)] w (RP w b s (.tuple #[.agg (nR s i).arr,.bool (bS s i==3)]) (i+bS s i)):=by
 by_cases h0:bd (bt s i)=true
 ·by_cases h1:gJ (bt s (i+1))=true
  ·by_cases h2:bd (bt s (i+2))=true
   ·have e:bS s i=3:=by simp[bS,h0,h1,h2]
    have e2:nR s i=qX s i:=by simp[nR,h0,h1,h2]
    rw[e,e2];exact Cm s b i w hB hr h0 h1 h2
   ·have h2:bd (bt s (i+2))=false:=by simpa using h2
    have e:bS s i=2:=by simp[bS,h0,h1,h2]
    have e2:nR s i=⟨3,0,bt s (i+1),dw (bt s i),dC (bt s i),0,0⟩:=by simp[nR,h0,h1,h2]
    rw[e,e2];exact BW s b i w hB hr h0 h1 h2
  ·have h1:gJ (bt s (i+1))=false:=by simpa using h1
   have e:bS s i=1:=by simp[bS,h0,h1]
   have e2:nR s i=Fh:=by simp[nR,h0,h1]
   rw[e,e2];exact DM s b i w hB hr h0 h1
 ·have h0:bd (bt s i)=false:=by simpa using h0
  have e:bS s i=0:=by simp[bS,h0]
  have e2:nR s i=Fh:=by simp[nR,h0]
  rw[e,e2];exact DJ s b i w hB hr h0
theorem EG (s:ByteArray)(b i:Nat)(w:World)(hB:s.size≤400∧i≤400)(hr:Rd w b s i):Calls Tryz.prog 149 #[.pointer (some ⟨b,0,none⟩)] w (RP w b s (.tuple #[.agg (oP s i).arr,.bool (fJ s i)]) (i+cQ s i)):=by
 by_cases h0:aR (bt s i)=true
 ·by_cases h1:bd (bt s (i+1))=true
  ·have hj1:i+1<c9 s (i+1):=ew _ _
   by_cases h2:bd (bt s (c9 s (i+1)))=true
   ·have hj2:c9 s (i+1)<c9 s (c9 s (i+1)):=ew _ _
    have e:i+cQ s i=c9 s (c9 s (i+1)):=by simp[cQ,h0,h1,h2];omega
    have e2:oP s i=wU s i:=by simp[oP,h0,h1,h2]
    have e3:fJ s i=true:=by simp[fJ,h0,h1,h2]
    rw[e,e2,e3];exact B5 s b i w hB hr h0 h1 h2
   ·have h2:bd (bt s (c9 s (i+1)))=false:=by simpa using h2
    have e:i+cQ s i=c9 s (i+1):=by simp[cQ,h0,h1,h2];omega
    have e2:oP s i=⟨1,bt s i - 97,dw (bt s (i+1)),dC (bt s (i+1)),g9 (bt s (i+1+1)),0,0,0⟩:=by simp[oP,h0,h1,h2]
    have e3:fJ s i=false:=by simp[fJ,h0,h1,h2]
    rw[e,e2,e3];exact DA s b i w hB hr h0 h1 h2
  ·have h1:bd (bt s (i+1))=false:=by simpa using h1
   have e:cQ s i=1:=by simp[cQ,h0,h1]
   have e2:oP s i=FX:=by simp[oP,h0,h1]
   have e3:fJ s i=false:=by simp[fJ,h0,h1]
   rw[e,e2,e3];exact DP s b i w hB hr h0 h1
 ·have h0:aR (bt s i)=false:=by simpa using h0
  have e:cQ s i=0:=by simp[cQ,h0]
  have e2:oP s i=FX:=by simp[oP,h0]
  have e3:fJ s i=false:=by simp[fJ,h0]
  rw[e,e2,e3];exact DK s b i w hB hr h0
theorem Eg (s:ByteArray)(b i:Nat)(w:World)(hB:s.size≤400∧i≤400)(hr:Rd w b s i):Calls Tryz.prog 150 #[.pointer (some ⟨b,0,none⟩)] w (RP w b s (.tuple #[.agg (rB s i).arr,.bool (gq s i)]) (i+c8 s i)):=by
 by_cases h0:aR (bt s i)=true
 ·by_cases h1:bd (bt s (i+1))=true
  ·have hj1:i+1<c9 s (i+1):=ew _ _
   have e:i+c8 s i=c9 s (i+1):=by simp[c8,h0,h1];omega
   have e2:rB s i=vZ s i:=by simp[rB,h0,h1]
   have e3:gq s i=true:=by simp[gq,h0,h1]
   rw[e,e2,e3];exact zl s b i w hB hr h0 h1
  ·have h1:bd (bt s (i+1))=false:=by simpa using h1
   have e:c8 s i=1:=by simp[c8,h0,h1]
   have e2:rB s i=⟨2,bt s i - 97,0,0,0,0,0,0⟩:=by simp[rB,h0,h1]
   have e3:gq s i=false:=by simp[gq,h0,h1]
   rw[e,e2,e3];exact At s b i w hB hr h0 h1
 ·have h0:aR (bt s i)=false:=by simpa using h0
  have e:c8 s i=0:=by simp[c8,h0]
  have e2:rB s i=FX:=by simp[rB,h0]
  have e3:gq s i=false:=by simp[gq,h0]
  rw[e,e2,e3];exact AM s b i w hB hr h0
theorem vz (s:ByteArray)(b i:Nat)(w:World)(hB:s.size≤400∧i≤400)(hr:Rd w b s i):Calls Tryz.prog 141 #[.pointer (some ⟨b,0,none⟩)] w (RP w b s (.tuple #[.agg (wq s i).arr,.bool (b7 s i)]) (i+aH s i)):=by
 have hs:=hB.1
 by_cases h:bt s i=33
 ·have hlt:i<s.size:=de (by omega)
  have e1:b7 s i=(bu s (i+1)==3):=by simp[b7,h]
  have e2:i+aH s i=i+1+bu s (i+1):=by simp[aH,h];omega
  have e3:wq s i=lU 2 s (i+1):=by simp[wq,h]
  rw[e1,e2,e3]
  exact Cx s b i w hB hr h _ _ _ _ _ _ _ _ _ (fun W hW=>yA s b (i+1) W ⟨hs,by omega⟩ hW 2)
 ·by_cases h1:aR (bt s i)=true
  ·have e1:b7 s i=(bu s i==3):=by simp[b7,h,h1]
   have e2:aH s i=bu s i:=by simp[aH,h,h1]
   have e3:wq s i=lU 1 s i:=by simp[wq,h,h1]
   rw[e1,e2,e3]
   exact DU s b i w hB hr h h1 _ _ _ _ _ _ _ _ _ (fun W hW=>yA s b i W hB hW 1)
  ·have h1:aR (bt s i)=false:=by simpa using h1
   have e1:b7 s i=(bS s i==3):=by simp[b7,h,h1]
   have e2:aH s i=bS s i:=by simp[aH,h,h1]
   have e3:wq s i=nR s i:=by simp[wq,h,h1]
   rw[e1,e2,e3]
   exact Aw s b i w hB hr h h1 _ _ _ _ _ _ _ _ _ (fun W hW=>Ex s b i W hB hW)
theorem yJ (s:ByteArray)(b i:Nat)(w:World)(hB:s.size≤400∧i≤400)(hr:Rd w b s i):Calls Tryz.prog 142 #[.pointer (some ⟨b,0,none⟩)] w (RP w b s (.tuple #[.agg (v8 s i).arr,.bool (cT s i)]) (i+aS s i)):=by
 have hs:=hB.1
 by_cases h:bt s i=43
 ·have hlt:i<s.size:=de (by omega)
  have e1:cT s i=fJ s (i+1):=by simp[cT,h]
  have e2:i+aS s i=i+1+cQ s (i+1):=by simp[aS,h];omega
  have e3:v8 s i=oP s (i+1):=by simp[v8,h]
  rw[e1,e2,e3]
  exact Ds s b i w hB hr h _ _ _ _ _ _ _ _ _ _ (fun W hW=>EG s b (i+1) W ⟨hs,by omega⟩ hW)
 ·by_cases h1:bt s i=45
  ·have hlt:i<s.size:=de (by omega)
   have e1:cT s i=gq s (i+1):=by simp[cT,h1]
   have e2:i+aS s i=i+1+c8 s (i+1):=by simp[aS,h1];omega
   have e3:v8 s i=rB s (i+1):=by simp[v8,h1]
   rw[e1,e2,e3]
   exact BA s b i w hB hr h1 _ _ _ _ _ _ _ _ _ _ (fun W hW=>Eg s b (i+1) W ⟨hs,by omega⟩ hW)
  ·have e3:v8 s i=⟨3,0,0,0,0,0,0,0⟩:=by simp[v8,h,h1]
   by_cases h2:bt s i=46
   ·have e1:cT s i=true:=by simp[cT,h2]
    have e2:aS s i=1:=by simp[aS,h2]
    rw[e1,e2,e3]
    exact B9 s b i w hB hr h2
   ·have e1:cT s i=false:=by simp[cT,h,h1,h2]
    have e2:aS s i=0:=by simp[aS,h,h1,h2]
    rw[e1,e2,e3]
    exact Dm s b i w hB hr h h1 h2
end Go.Proofs.YthlhbjnkohinmaaGreat
