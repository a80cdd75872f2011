import Derived.Test.YthlhbjnkohinmaaGreatP01
namespace Go.Proofs.YthlhbjnkohinmaaGreat
set_option maxRecDepth 100000
set_option maxHeartbeats 8000000
open Go.RowKit
structure Cd where
 k:Int
 c:Int
 g:Int
 a1:Int
 a2:Int
 b1:Int
 b2:Int
structure Ac where
 k:Int
 c:Int
 a1:Int
 a2:Int
 a3:Int
 b1:Int
 b2:Int
 b3:Int
abbrev Cd.arr (x:Cd):Array Value:=#[.int .i64 x.k,.int .i64 x.c,.int .u8 x.g,.int .i64 x.a1,.int .i64 x.a2,.int .i64 x.b1,.int .i64 x.b2]
abbrev Ac.arr (x:Ac):Array Value:=#[.int .i64 x.k,.int .i64 x.c,.int .i64 x.a1,.int .i64 x.a2,.int .i64 x.a3,.int .i64 x.b1,.int .i64 x.b2,.int .i64 x.b3]
theorem DM (s:ByteArray)(b i:Nat)(w:World)(hB:s.size≤400∧i≤400)(hr:Rd w b s i)(h:bt s i=33)(x0 x1 x2 x3 x4 x5 x6:Int)(ok:Bool)(j:Nat)(hp:∀ W,Rd W b s (i+1)→Calls Tryz.prog 147 #[.pointer (some ⟨b,0,none⟩),.int .i64 2] W (RP W b s (.tuple #[.agg #[.int .i64 x0,.int .i64 x1,.int .u8 x2,.int .i64 x3,.int .i64 x4,.int .i64 x5,.int .i64 x6],.bool ok]) j)):Calls Tryz.prog 141 #[.pointer (some ⟨b,0,none⟩)] w (RP w b s (.tuple #[.agg #[.int .i64 x0,.int .i64 x1,.int .u8 x2,.int .i64 x3,.int .i64 x4,.int .i64 x5,.int .i64 x6],.bool ok]) (j)):=by
 have hl:=hr.lt
 have hne:w.heap.size≠b:=by omega
 have hs:=hB.1
 have H:Hid (bt s i=33):=h
 clear h
 go_enter Tryz.func141,Tryz.ntmps141
 go_wp2_with fail
 go_at_call 123
 refine (eT s b i _ hB (hr.alloc _) 33 H.out).mono ?_
 rintro e w1 ⟨rfl,hr1,hg1⟩
 obtain⟨⟨hc1,hf1⟩,hn1,hzw1,hyw1,hxw1,hk1⟩:=nx hr1 hg1 (by omega)
 go_wp2_with fail
 go_at_call 147
 refine (hp _ (by with_reducible repeat' (first|assumption|refine Rd.alloc ?_ _|refine Rd.drewN ?_ _|refine Rd.step ?_|refine Rd.other ?_ ?_ _|(simp;omega)))).mono ?_
 rintro e w2 ⟨rfl,hr2,hg2⟩
 obtain⟨hc2,hf2⟩:=cN hg2
 have hn2:w2.heap.size≠b:=by have:=hr2.lt;omega
 have hzw2:w.heap.size<w2.heap.size:=by have:=hg2.size;(try simp at this);omega
 have hyw2:=Nat.le_of_lt hzw2
 have hxw2:=Nat.ne_of_lt hzw2
 have hk2:=af ((hg2.block w.heap.size (by (try simp);omega) (by simp;omega)).trans hk1.out)
 go_wp2
 refine bodyPost_ret (v:=.tuple #[.agg #[.int .i64 x0,.int .i64 x1,.int .u8 x2,.int .i64 x3,.int .i64 x4,.int .i64 x5,.int .i64 x6],.bool ok]) (aN Tryz.results141 rfl (bj 6 (bj 5 (bj 4 (bj 3 (bj 2 (bj 1 (bj 0 hk2.out))))))) Tryz.underlying206 rfl (by kernel_rfl) rfl) rfl ⟨rfl,?_,?_⟩
 ·with_reducible repeat' (first|assumption|refine Rd.alloc ?_ _|refine Rd.drewN ?_ _|refine Rd.step ?_|refine Rd.other ?_ ?_ _|(simp;omega))
 ·with_reducible repeat' (first|assumption|exact ag _ _|refine aj ?_ ?_ _|refine ab ?_ _|refine al ?_ _|refine ae ?_ (by assumption)|(right;simp;done)|(right;simp;omega)|(left;rfl))
theorem Cw (s:ByteArray)(b i:Nat)(w:World)(hB:s.size≤400∧i≤400)(hr:Rd w b s i)(h:¬bt s i=33)(h1:aQ (bt s i)=true)(x0 x1 x2 x3 x4 x5 x6:Int)(ok:Bool)(j:Nat)(hp:∀ W,Rd W b s (i)→Calls Tryz.prog 147 #[.pointer (some ⟨b,0,none⟩),.int .i64 1] W (RP W b s (.tuple #[.agg #[.int .i64 x0,.int .i64 x1,.int .u8 x2,.int .i64 x3,.int .i64 x4,.int .i64 x5,.int .i64 x6],.bool ok]) j)):Calls Tryz.prog 141 #[.pointer (some ⟨b,0,none⟩)] w (RP w b s (.tuple #[.agg #[.int .i64 x0,.int .i64 x1,.int .u8 x2,.int .i64 x3,.int .i64 x4,.int .i64 x5,.int .i64 x6],.bool ok]) (j)):=by
 have hl:=hr.lt
 have hne:w.heap.size≠b:=by omega
 have hs:=hB.1
 have H:Hid (¬bt s i=33):=h
 clear h
 have hb:=bX s i
 go_enter Tryz.func141,Tryz.ntmps141
 go_wp2_with fail
 go_at_call 123
 refine (dk s b i _ hB (hr.alloc _) 33 H.out).mono ?_
 rintro e w1 ⟨rfl,hr1,hg1⟩
 obtain⟨⟨hc1,hf1⟩,hn1,hzw1,hyw1,hxw1,hk1⟩:=nx hr1 hg1 (by omega)
 go_wp2_with fail
 go_at_call 140
 refine (eO s b i _ hs hr1).mono ?_
 rintro e w' ⟨rfl,n,rfl⟩
 go_wp2_with fail
 go_at_call 82
 refine (lV _ _ hb.1 hb.2 h1).mono ?_
 rintro e w' ⟨rfl,rfl⟩
 go_wp2_with fail
 go_at_call 147
 refine (hp _ (by with_reducible repeat' (first|assumption|refine Rd.alloc ?_ _|refine Rd.drewN ?_ _|refine Rd.step ?_|refine Rd.other ?_ ?_ _|(simp;omega)))).mono ?_
 rintro e w2 ⟨rfl,hr2,hg2⟩
 replace hg2:=cD hg2
 obtain⟨hc2,hf2⟩:=cN hg2
 have hn2:w2.heap.size≠b:=by have:=hr2.lt;omega
 have hzw2:w.heap.size<w2.heap.size:=by have:=hg2.size;(try simp at this);omega
 have hyw2:=Nat.le_of_lt hzw2
 have hxw2:=Nat.ne_of_lt hzw2
 have hk2:=af ((hg2.block w.heap.size (by (try simp);omega) (by simp;omega)).trans hk1.out)
 go_wp2
 refine bodyPost_ret (v:=.tuple #[.agg #[.int .i64 x0,.int .i64 x1,.int .u8 x2,.int .i64 x3,.int .i64 x4,.int .i64 x5,.int .i64 x6],.bool ok]) (aN Tryz.results141 rfl (bj 6 (bj 5 (bj 4 (bj 3 (bj 2 (bj 1 (bj 0 hk2.out))))))) Tryz.underlying206 rfl (by kernel_rfl) rfl) rfl ⟨rfl,?_,?_⟩
 ·with_reducible repeat' (first|assumption|refine Rd.alloc ?_ _|refine Rd.drewN ?_ _|refine Rd.step ?_|refine Rd.other ?_ ?_ _|(simp;omega))
 ·with_reducible repeat' (first|assumption|exact ag _ _|refine aj ?_ ?_ _|refine ab ?_ _|refine al ?_ _|refine ae ?_ (by assumption)|(right;simp;done)|(right;simp;omega)|(left;rfl))
theorem zY (s:ByteArray)(b i:Nat)(w:World)(hB:s.size≤400∧i≤400)(hr:Rd w b s i)(h:¬bt s i=33)(h1:aQ (bt s i)=false)(x0 x1 x2 x3 x4 x5 x6:Int)(ok:Bool)(j:Nat)(hp:∀ W,Rd W b s (i)→Calls Tryz.prog 148 #[.pointer (some ⟨b,0,none⟩)] W (RP W b s (.tuple #[.agg #[.int .i64 x0,.int .i64 x1,.int .u8 x2,.int .i64 x3,.int .i64 x4,.int .i64 x5,.int .i64 x6],.bool ok]) j)):Calls Tryz.prog 141 #[.pointer (some ⟨b,0,none⟩)] w (RP w b s (.tuple #[.agg #[.int .i64 x0,.int .i64 x1,.int .u8 x2,.int .i64 x3,.int .i64 x4,.int .i64 x5,.int .i64 x6],.bool ok]) (j)):=by
 have hl:=hr.lt
 have hne:w.heap.size≠b:=by omega
 have hs:=hB.1
 have H:Hid (¬bt s i=33):=h
 clear h
 have hb:=bX s i
 go_enter Tryz.func141,Tryz.ntmps141
 go_wp2_with fail
 go_at_call 123
 refine (dk s b i _ hB (hr.alloc _) 33 H.out).mono ?_
 rintro e w1 ⟨rfl,hr1,hg1⟩
 obtain⟨⟨hc1,hf1⟩,hn1,hzw1,hyw1,hxw1,hk1⟩:=nx hr1 hg1 (by omega)
 go_wp2_with fail
 go_at_call 140
 refine (eO s b i _ hs hr1).mono ?_
 rintro e w' ⟨rfl,n,rfl⟩
 go_wp2_with fail
 go_at_call 82
 refine (nH _ _ hb.1 hb.2 h1).mono ?_
 rintro e w' ⟨rfl,rfl⟩
 go_wp2_with fail
 go_at_call 148
 refine (hp _ (by with_reducible repeat' (first|assumption|refine Rd.alloc ?_ _|refine Rd.drewN ?_ _|refine Rd.step ?_|refine Rd.other ?_ ?_ _|(simp;omega)))).mono ?_
 rintro e w2 ⟨rfl,hr2,hg2⟩
 replace hg2:=cD hg2
 obtain⟨hc2,hf2⟩:=cN hg2
 have hn2:w2.heap.size≠b:=by have:=hr2.lt;omega
 have hzw2:w.heap.size<w2.heap.size:=by have:=hg2.size;(try simp at this);omega
 have hyw2:=Nat.le_of_lt hzw2
 have hxw2:=Nat.ne_of_lt hzw2
 have hk2:=af ((hg2.block w.heap.size (by (try simp);omega) (by simp;omega)).trans hk1.out)
 go_wp2
 refine bodyPost_ret (v:=.tuple #[.agg #[.int .i64 x0,.int .i64 x1,.int .u8 x2,.int .i64 x3,.int .i64 x4,.int .i64 x5,.int .i64 x6],.bool ok]) (aN Tryz.results141 rfl (bj 6 (bj 5 (bj 4 (bj 3 (bj 2 (bj 1 (bj 0 hk2.out))))))) Tryz.underlying206 rfl (by kernel_rfl) rfl) rfl ⟨rfl,?_,?_⟩
 ·with_reducible repeat' (first|assumption|refine Rd.alloc ?_ _|refine Rd.drewN ?_ _|refine Rd.step ?_|refine Rd.other ?_ ?_ _|(simp;omega))
 ·with_reducible repeat' (first|assumption|exact ag _ _|refine aj ?_ ?_ _|refine ab ?_ _|refine al ?_ _|refine ae ?_ (by assumption)|(right;simp;done)|(right;simp;omega)|(left;rfl))
theorem CD (s:ByteArray)(b i:Nat)(w:World)(hB:s.size≤400∧i≤400)(hr:Rd w b s i)(h:bt s i=43)(x0 x1 x2 x3 x4 x5 x6 x7:Int)(ok:Bool)(j:Nat)(hp:∀ W,Rd W b s (i+1)→Calls Tryz.prog 149 #[.pointer (some ⟨b,0,none⟩)] W (RP W b s (.tuple #[.agg #[.int .i64 x0,.int .i64 x1,.int .i64 x2,.int .i64 x3,.int .i64 x4,.int .i64 x5,.int .i64 x6,.int .i64 x7],.bool ok]) j)):Calls Tryz.prog 142 #[.pointer (some ⟨b,0,none⟩)] w (RP w b s (.tuple #[.agg #[.int .i64 x0,.int .i64 x1,.int .i64 x2,.int .i64 x3,.int .i64 x4,.int .i64 x5,.int .i64 x6,.int .i64 x7],.bool ok]) (j)):=by
 have hl:=hr.lt
 have hne:w.heap.size≠b:=by omega
 have hs:=hB.1
 have H:Hid (bt s i=43):=h
 clear h
 go_enter Tryz.func142,Tryz.ntmps142
 go_wp2_with fail
 go_at_call 123
 refine (eT s b i _ hB (hr.alloc _) 43 H.out).mono ?_
 rintro e w1 ⟨rfl,hr1,hg1⟩
 obtain⟨⟨hc1,hf1⟩,hn1,hzw1,hyw1,hxw1,hk1⟩:=nx hr1 hg1 (by omega)
 go_wp2_with fail
 go_at_call 149
 refine (hp _ (by with_reducible repeat' (first|assumption|refine Rd.alloc ?_ _|refine Rd.drewN ?_ _|refine Rd.step ?_|refine Rd.other ?_ ?_ _|(simp;omega)))).mono ?_
 rintro e w2 ⟨rfl,hr2,hg2⟩
 obtain⟨hc2,hf2⟩:=cN hg2
 have hn2:w2.heap.size≠b:=by have:=hr2.lt;omega
 have hzw2:w.heap.size<w2.heap.size:=by have:=hg2.size;(try simp at this);omega
 have hyw2:=Nat.le_of_lt hzw2
 have hxw2:=Nat.ne_of_lt hzw2
 have hk2:=af ((hg2.block w.heap.size (by (try simp);omega) (by simp;omega)).trans hk1.out)
 go_wp2
 refine bodyPost_ret (v:=.tuple #[.agg #[.int .i64 x0,.int .i64 x1,.int .i64 x2,.int .i64 x3,.int .i64 x4,.int .i64 x5,.int .i64 x6,.int .i64 x7],.bool ok]) (aN Tryz.results142 rfl (bj 7 (bj 6 (bj 5 (bj 4 (bj 3 (bj 2 (bj 1 (bj 0 hk2.out)))))))) Tryz.underlying219 rfl (by kernel_rfl) rfl) rfl ⟨rfl,?_,?_⟩
 ·with_reducible repeat' (first|assumption|refine Rd.alloc ?_ _|refine Rd.drewN ?_ _|refine Rd.step ?_|refine Rd.other ?_ ?_ _|(simp;omega))
 ·with_reducible repeat' (first|assumption|exact ag _ _|refine aj ?_ ?_ _|refine ab ?_ _|refine al ?_ _|refine ae ?_ (by assumption)|(right;simp;done)|(right;simp;omega)|(left;rfl))
theorem Ai (s:ByteArray)(b i:Nat)(w:World)(hB:s.size≤400∧i≤400)(hr:Rd w b s i)(h:bt s i=45)(x0 x1 x2 x3 x4 x5 x6 x7:Int)(ok:Bool)(j:Nat)(hp:∀ W,Rd W b s (i+1)→Calls Tryz.prog 150 #[.pointer (some ⟨b,0,none⟩)] W (RP W b s (.tuple #[.agg #[.int .i64 x0,.int .i64 x1,.int .i64 x2,.int .i64 x3,.int .i64 x4,.int .i64 x5,.int .i64 x6,.int .i64 x7],.bool ok]) j)):Calls Tryz.prog 142 #[.pointer (some ⟨b,0,none⟩)] w (RP w b s (.tuple #[.agg #[.int .i64 x0,.int .i64 x1,.int .i64 x2,.int .i64 x3,.int .i64 x4,.int .i64 x5,.int .i64 x6,.int .i64 x7],.bool ok]) (j)):=by
 have hl:=hr.lt
 have hne:w.heap.size≠b:=by omega
 have hs:=hB.1
 have H:Hid (bt s i=45):=h
 have H1:Hid (¬bt s i=43):=by intro hx;omega
 clear h
 go_enter Tryz.func142,Tryz.ntmps142
 go_wp2_with fail
 go_at_call 123
 refine (dk s b i _ hB (hr.alloc _) 43 H1.out).mono ?_
 rintro e w1 ⟨rfl,hr1,hg1⟩
 obtain⟨⟨hc1,hf1⟩,hn1,hzw1,hyw1,hxw1,hk1⟩:=nx hr1 hg1 (by omega)
 go_wp2_with fail
 go_at_call 123
 refine (eT s b i _ hB (by with_reducible repeat' (first|assumption|refine Rd.alloc ?_ _|refine Rd.drewN ?_ _|refine Rd.step ?_|refine Rd.other ?_ ?_ _|(simp;omega))) 45 H.out).mono ?_
 rintro e w2 ⟨rfl,hr2,hg2⟩
 obtain⟨hc2,hf2⟩:=cN hg2
 have hn2:w2.heap.size≠b:=by have:=hr2.lt;omega
 have hzw2:w.heap.size<w2.heap.size:=by have:=hg2.size;(try simp at this);omega
 have hyw2:=Nat.le_of_lt hzw2
 have hxw2:=Nat.ne_of_lt hzw2
 have hk2:=af ((hg2.block w.heap.size (by (try simp);omega) (by simp;omega)).trans hk1.out)
 go_wp2_with fail
 go_at_call 150
 refine (hp _ (by with_reducible repeat' (first|assumption|refine Rd.alloc ?_ _|refine Rd.drewN ?_ _|refine Rd.step ?_|refine Rd.other ?_ ?_ _|(simp;omega)))).mono ?_
 rintro e w3 ⟨rfl,hr3,hg3⟩
 obtain⟨hc3,hf3⟩:=cN hg3
 have hn3:w3.heap.size≠b:=by have:=hr3.lt;omega
 have hzw3:w.heap.size<w3.heap.size:=by have:=hg3.size;(try simp at this);omega
 have hyw3:=Nat.le_of_lt hzw3
 have hxw3:=Nat.ne_of_lt hzw3
 have hk3:=af ((hg3.block w.heap.size (by (try simp);omega) (by simp;omega)).trans hk2.out)
 go_wp2
 refine bodyPost_ret (v:=.tuple #[.agg #[.int .i64 x0,.int .i64 x1,.int .i64 x2,.int .i64 x3,.int .i64 x4,.int .i64 x5,.int .i64 x6,.int .i64 x7],.bool ok]) (aN Tryz.results142 rfl (bj 7 (bj 6 (bj 5 (bj 4 (bj 3 (bj 2 (bj 1 (bj 0 hk3.out)))))))) Tryz.underlying219 rfl (by kernel_rfl) rfl) rfl ⟨rfl,?_,?_⟩
 ·with_reducible repeat' (first|assumption|refine Rd.alloc ?_ _|refine Rd.drewN ?_ _|refine Rd.step ?_|refine Rd.other ?_ ?_ _|(simp;omega))
 ·with_reducible repeat' (first|assumption|exact ag _ _|refine aj ?_ ?_ _|refine ab ?_ _|refine al ?_ _|refine ae ?_ (by assumption)|(right;simp;done)|(right;simp;omega)|(left;rfl))
theorem Dd (s:ByteArray)(b i:Nat)(w:World)(hB:s.size≤400∧i≤400)(hr:Rd w b s i)(h:bt s i=46):Calls Tryz.prog 142 #[.pointer (some ⟨b,0,none⟩)] w (RP w b s (.tuple #[.agg #[.int .i64 3,.int .i64 0,.int .i64 0,.int .i64 0,.int .i64 0,.int .i64 0,.int .i64 0,.int .i64 0],.bool true]) (i+1)):=by
 have hl:=hr.lt
 have hne:w.heap.size≠b:=by omega
 have hs:=hB.1
 have H:Hid (bt s i=46):=h
 have H1:Hid (¬bt s i=43):=by intro hx;omega
 have H2:Hid (¬bt s i=45):=by intro hx;omega
 clear h
 go_enter Tryz.func142,Tryz.ntmps142
 go_wp2_with fail
 go_at_call 123
 refine (dk s b i _ hB (hr.alloc _) 43 H1.out).mono ?_
 rintro e w1 ⟨rfl,hr1,hg1⟩
 obtain⟨⟨hc1,hf1⟩,hn1,hzw1,hyw1,hxw1,hk1⟩:=nx hr1 hg1 (by omega)
 go_wp2_with fail
 go_at_call 123
 refine (dk s b i _ hB (by with_reducible repeat' (first|assumption|refine Rd.alloc ?_ _|refine Rd.drewN ?_ _|refine Rd.step ?_|refine Rd.other ?_ ?_ _|(simp;omega))) 45 H2.out).mono ?_
 rintro e w2 ⟨rfl,hr2,hg2⟩
 obtain⟨hc2,hf2⟩:=cN hg2
 have hn2:w2.heap.size≠b:=by have:=hr2.lt;omega
 have hzw2:w.heap.size<w2.heap.size:=by have:=hg2.size;(try simp at this);omega
 have hyw2:=Nat.le_of_lt hzw2
 have hxw2:=Nat.ne_of_lt hzw2
 have hk2:=af ((hg2.block w.heap.size (by (try simp);omega) (by simp;omega)).trans hk1.out)
 go_wp2_with fail
 go_at_call 123
 refine (eT s b i _ hB (by with_reducible repeat' (first|assumption|refine Rd.alloc ?_ _|refine Rd.drewN ?_ _|refine Rd.step ?_|refine Rd.other ?_ ?_ _|(simp;omega))) 46 H.out).mono ?_
 rintro e w3 ⟨rfl,hr3,hg3⟩
 obtain⟨hc3,hf3⟩:=cN hg3
 have hn3:w3.heap.size≠b:=by have:=hr3.lt;omega
 have hzw3:w.heap.size<w3.heap.size:=by have:=hg3.size;(try simp at this);omega
 have hyw3:=Nat.le_of_lt hzw3
 have hxw3:=Nat.ne_of_lt hzw3
 have hk3:=af ((hg3.block w.heap.size (by (try simp);omega) (by simp;omega)).trans hk2.out)
 go_wp2
 refine bodyPost_ret (v:=.tuple #[.agg #[.int .i64 3,.int .i64 0,.int .i64 0,.int .i64 0,.int .i64 0,.int .i64 0,.int .i64 0,.int .i64 0],.bool true]) (aN Tryz.results142 rfl (bj 7 (bj 6 (bj 5 (bj 4 (bj 3 (bj 2 (bj 1 (bj 0 hk3.out)))))))) Tryz.underlying219 rfl (by kernel_rfl) rfl) rfl ⟨rfl,?_,?_⟩
 ·with_reducible repeat' (first|assumption|refine Rd.alloc ?_ _|refine Rd.drewN ?_ _|refine Rd.step ?_|refine Rd.other ?_ ?_ _|(simp;omega))
 ·with_reducible repeat' (first|assumption|exact ag _ _|refine aj ?_ ?_ _|refine ab ?_ _|refine al ?_ _|refine ae ?_ (by assumption)|(right;simp;done)|(right;simp;omega)|(left;rfl))
theorem B0 (s:ByteArray)(b i:Nat)(w:World)(hB:s.size≤400∧i≤400)(hr:Rd w b s i)(h0:¬bt s i=43)(h1:¬bt s i=45)(h2:¬bt s i=46):Calls Tryz.prog 142 #[.pointer (some ⟨b,0,none⟩)] w (RP w b s (.tuple #[.agg #[.int .i64 3,.int .i64 0,.int .i64 0,.int .i64 0,.int .i64 0,.int .i64 0,.int .i64 0,.int .i64 0],.bool false]) (i)):=by
 have hl:=hr.lt
 have hne:w.heap.size≠b:=by omega
 have hs:=hB.1
 have H:Hid (¬bt s i=46):=h2
 have H1:Hid (¬bt s i=43):=h0
 have H2:Hid (¬bt s i=45):=h1
 clear h0 h1 h2
 go_enter Tryz.func142,Tryz.ntmps142
 go_wp2_with fail
 go_at_call 123
 refine (dk s b i _ hB (hr.alloc _) 43 H1.out).mono ?_
 rintro e w1 ⟨rfl,hr1,hg1⟩
 obtain⟨⟨hc1,hf1⟩,hn1,hzw1,hyw1,hxw1,hk1⟩:=nx hr1 hg1 (by omega)
 go_wp2_with fail
 go_at_call 123
 refine (dk s b i _ hB (by with_reducible repeat' (first|assumption|refine Rd.alloc ?_ _|refine Rd.drewN ?_ _|refine Rd.step ?_|refine Rd.other ?_ ?_ _|(simp;omega))) 45 H2.out).mono ?_
 rintro e w2 ⟨rfl,hr2,hg2⟩
 obtain⟨hc2,hf2⟩:=cN hg2
 have hn2:w2.heap.size≠b:=by have:=hr2.lt;omega
 have hzw2:w.heap.size<w2.heap.size:=by have:=hg2.size;(try simp at this);omega
 have hyw2:=Nat.le_of_lt hzw2
 have hxw2:=Nat.ne_of_lt hzw2
 have hk2:=af ((hg2.block w.heap.size (by (try simp);omega) (by simp;omega)).trans hk1.out)
 go_wp2_with fail
 go_at_call 123
 refine (dk s b i _ hB (by with_reducible repeat' (first|assumption|refine Rd.alloc ?_ _|refine Rd.drewN ?_ _|refine Rd.step ?_|refine Rd.other ?_ ?_ _|(simp;omega))) 46 H.out).mono ?_
 rintro e w3 ⟨rfl,hr3,hg3⟩
 obtain⟨hc3,hf3⟩:=cN hg3
 have hn3:w3.heap.size≠b:=by have:=hr3.lt;omega
 have hzw3:w.heap.size<w3.heap.size:=by have:=hg3.size;(try simp at this);omega
 have hyw3:=Nat.le_of_lt hzw3
 have hxw3:=Nat.ne_of_lt hzw3
 have hk3:=af ((hg3.block w.heap.size (by (try simp);omega) (by simp;omega)).trans hk2.out)
 go_wp2
 refine bodyPost_ret (v:=.tuple #[.agg #[.int .i64 3,.int .i64 0,.int .i64 0,.int .i64 0,.int .i64 0,.int .i64 0,.int .i64 0,.int .i64 0],.bool false]) (aN Tryz.results142 rfl (bj 7 (bj 6 (bj 5 (bj 4 (bj 3 (bj 2 (bj 1 (bj 0 hk3.out)))))))) Tryz.underlying219 rfl (by kernel_rfl) rfl) rfl ⟨rfl,?_,?_⟩
 ·with_reducible repeat' (first|assumption|refine Rd.alloc ?_ _|refine Rd.drewN ?_ _|refine Rd.step ?_|refine Rd.other ?_ ?_ _|(simp;omega))
 ·with_reducible repeat' (first|assumption|exact ag _ _|refine aj ?_ ?_ _|refine ab ?_ _|refine al ?_ _|refine ae ?_ (by assumption)|(right;simp;done)|(right;simp;omega)|(left;rfl))
def bx (s:ByteArray)(i:Nat):Nat:=if aQ (bt s i) then (if c9 (bt s (i+1)) then (if c9 (bt s (i+2)) then 3 else 2) else 1) else 0
def bT (s:ByteArray)(i:Nat):Nat:=if a9 (bt s i) then (if gH (bt s (i+1)) then (if a9 (bt s (i+2)) then 3 else 2) else 1) else 0
def aG (s:ByteArray)(i:Nat):Nat:=if bt s i=33 then 1+bx s (i+1) else if aQ (bt s i) then bx s i else bT s i
def b7 (s:ByteArray)(i:Nat):Bool:=if bt s i=33 then bx s (i+1)==3 else if aQ (bt s i) then bx s i==3 else bT s i==3
def ms (kind:Int)(s:ByteArray)(i:Nat):Cd:=⟨kind,bt s i - 97,0,dx (bt s (i+1)),dD (bt s (i+1)),dx (bt s (i+2)),dD (bt s (i+2))⟩
def qW (s:ByteArray)(i:Nat):Cd:=⟨3,0,bt s (i+1),dx (bt s i),dD (bt s i),dx (bt s (i+2)),dD (bt s (i+2))⟩
def dg (s:ByteArray)(i:Nat):Cd:=if bt s i=33 then ms 2 s (i+1) else if aQ (bt s i) then ms 1 s i else qW s i
def cT (s:ByteArray)(i:Nat):Nat:=if aQ (bt s i) then (if a9 (bt s (i+1)) then (if a9 (bt s (da s (i+1))) then da s (da s (i+1)) - i else da s (i+1) - i) else 1) else 0
def fJ (s:ByteArray)(i:Nat):Bool:=aQ (bt s i)&&a9 (bt s (i+1))&&a9 (bt s (da s (i+1)))
def c8 (s:ByteArray)(i:Nat):Nat:=if aQ (bt s i) then (if a9 (bt s (i+1)) then da s (i+1) - i else 1) else 0
def gq (s:ByteArray)(i:Nat):Bool:=aQ (bt s i)&&a9 (bt s (i+1))
def aR (s:ByteArray)(i:Nat):Nat:=if bt s i=43 then 1+cT s (i+1) else if bt s i=45 then 1+c8 s (i+1) else if bt s i=46 then 1 else 0
def cU (s:ByteArray)(i:Nat):Bool:=if bt s i=43 then fJ s (i+1) else if bt s i=45 then gq s (i+1) else bt s i==46
def wB (s:ByteArray)(i:Nat):Ac:=⟨1,bt s i - 97,dx (bt s (i+1)),dD (bt s (i+1)),g9 (bt s (i+1+1)),dx (bt s (da s (i+1))),dD (bt s (da s (i+1))),g9 (bt s (da s (i+1)+1))⟩
def tY (s:ByteArray)(i:Nat):Ac:=⟨2,bt s i - 97,dx (bt s (i+1)),dD (bt s (i+1)),g9 (bt s (i+1+1)),0,0,0⟩
def d8 (s:ByteArray)(i:Nat):Ac:=if bt s i=43 then wB s (i+1) else if bt s i=45 then tY s (i+1) else ⟨3,0,0,0,0,0,0,0⟩
theorem eu (s:ByteArray)(i:Nat):i<da s i:=by unfold da;split <;> omega
def Fn:Cd:=⟨0,0,0,0,0,0,0⟩
def FZ:Ac:=⟨0,0,0,0,0,0,0,0⟩
def mi (kind:Int)(s:ByteArray)(i:Nat):Cd:=if aQ (bt s i) then (if c9 (bt s (i+1)) then (if c9 (bt s (i+2)) then ms kind s i else ⟨kind,bt s i - 97,0,dx (bt s (i+1)),dD (bt s (i+1)),0,0⟩) else Fn) else Fn
def oi (s:ByteArray)(i:Nat):Cd:=if a9 (bt s i) then (if gH (bt s (i+1)) then (if a9 (bt s (i+2)) then qW s i else ⟨3,0,bt s (i+1),dx (bt s i),dD (bt s i),0,0⟩) else Fn) else Fn
def wz (s:ByteArray)(i:Nat):Cd:=if bt s i=33 then mi 2 s (i+1) else if aQ (bt s i) then mi 1 s i else oi s i
def oU (s:ByteArray)(i:Nat):Ac:=if aQ (bt s i) then (if a9 (bt s (i+1)) then (if a9 (bt s (da s (i+1))) then wB s i else ⟨1,bt s i - 97,dx (bt s (i+1)),dD (bt s (i+1)),g9 (bt s (i+1+1)),0,0,0⟩) else FZ) else FZ
def q9 (s:ByteArray)(i:Nat):Ac:=if aQ (bt s i) then (if a9 (bt s (i+1)) then tY s i else ⟨2,bt s i - 97,0,0,0,0,0,0⟩) else FZ
def vN (s:ByteArray)(i:Nat):Ac:=if bt s i=43 then oU s (i+1) else if bt s i=45 then q9 s (i+1) else ⟨3,0,0,0,0,0,0,0⟩
theorem yx {kind:Int}{s:ByteArray}{i:Nat}(h:bx s i=3):mi kind s i=ms kind s i:=by
 unfold bx at h;unfold mi
 split at h
 ·split at h
  ·split at h
   ·simp[*]
   ·omega
  ·omega
 ·omega
theorem EG {s:ByteArray}{i:Nat}(h:bT s i=3):oi s i=qW s i:=by
 unfold bT at h;unfold oi
 split at h
 ·split at h
  ·split at h
   ·simp[*]
   ·omega
  ·omega
 ·omega
theorem FP {s:ByteArray}{i:Nat}(h:b7 s i=true):wz s i=dg s i:=by
 unfold b7 at h;unfold wz dg
 by_cases h1:bt s i=33
 ·simp only[h1,if_true] at h ⊢;exact yx (by simpa using h)
 ·by_cases h2:aQ (bt s i)=true
  ·simp only[h1,h2,if_false,if_true] at h ⊢;exact yx (by simpa using h)
  ·simp only[h1,h2,if_false] at h ⊢;exact EG (by simpa using h)
theorem FM {s:ByteArray}{i:Nat}(h:cU s i=true):vN s i=d8 s i:=by
 unfold cU at h;unfold vN d8
 by_cases h1:bt s i=43
 ·simp only[h1,if_true] at h ⊢;simp[fJ] at h;simp[oU,h]
 ·by_cases h2:bt s i=45
  ·simp only[h2,if_true] at h ⊢;simp[gq] at h;simp[q9,h]
  ·simp only[h1,h2,if_false]
theorem yq (s:ByteArray)(b i:Nat)(w:World)(hB:s.size≤400∧i≤400)(hr:Rd w b s i)(kind:Int):Calls Tryz.prog 147 #[.pointer (some ⟨b,0,none⟩),.int .i64 kind] w (RP w b s (.tuple #[.agg (mi kind s i).arr,.bool (bx s i==3)]) (i+bx s i)):=by
 by_cases h0:aQ (bt s i)=true
 ·by_cases h1:c9 (bt s (i+1))=true
  ·by_cases h2:c9 (bt s (i+2))=true
   ·have e:bx s i=3:=by simp[bx,h0,h1,h2]
    have e2:mi kind s i=ms kind s i:=by simp[mi,h0,h1,h2]
    rw[e,e2];exact vG s b i w hB hr kind h0 h1 h2
   ·have h2:c9 (bt s (i+2))=false:=by simpa using h2
    have e:bx s i=2:=by simp[bx,h0,h1,h2]
    have e2:mi kind s i=⟨kind,bt s i - 97,0,dx (bt s (i+1)),dD (bt s (i+1)),0,0⟩:=by simp[mi,h0,h1,h2]
    rw[e,e2];exact t4 s b i w hB hr kind h0 h1 h2
  ·have h1:c9 (bt s (i+1))=false:=by simpa using h1
   have e:bx s i=1:=by simp[bx,h0,h1]
   have e2:mi kind s i=Fn:=by simp[mi,h0,h1]
   rw[e,e2];exact uT s b i w hB hr kind h0 h1
 ·have h0:aQ (bt s i)=false:=by simpa using h0
  have e:bx s i=0:=by simp[bx,h0]
  have e2:mi kind s i=Fn:=by simp[mi,h0]
  rw[e,e2];exact tR s b i w hB hr kind h0
theorem Fg (s:ByteArray)(b i:Nat)(w:World)(hB:s.size≤400∧i≤400)(hr:Rd w b s i):Calls Tryz.prog 148 #[.pointer (some ⟨b,0,none⟩)] w (RP w b s (.tuple #[.agg (oi s i).arr,.bool (bT s i==3)]) (i+bT s i)):=by
 by_cases h0:a9 (bt s i)=true
 ·by_cases h1:gH (bt s (i+1))=true
  ·by_cases h2:a9 (bt s (i+2))=true
   ·have e:bT s i=3:=by simp[bT,h0,h1,h2]
    have e2:oi s i=qW s i:=by simp[oi,h0,h1,h2]
    rw[e,e2];exact Cr s b i w hB hr h0 h1 h2
   ·have h2:a9 (bt s (i+2))=false:=by simpa using h2
    have e:bT s i=2:=by simp[bT,h0,h1,h2]
    have e2:oi s i=⟨3,0,bt s (i+1),dx (bt s i),dD (bt s i),0,0⟩:=by simp[oi,h0,h1,h2]
    rw[e,e2];exact DT s b i w hB hr h0 h1 h2
  ·have h1:gH (bt s (i+1))=false:=by simpa using h1
   have e:bT s i=1:=by simp[bT,h0,h1]
   have e2:oi s i=Fn:=by simp[oi,h0,h1]
   rw[e,e2];exact Dp s b i w hB hr h0 h1
 ·have h0:a9 (bt s i)=false:=by simpa using h0
  have e:bT s i=0:=by simp[bT,h0]
  have e2:oi s i=Fn:=by simp[oi,h0]
  rw[e,e2];exact B1 s b i w hB hr h0
theorem D8 (s:ByteArray)(b i:Nat)(w:World)(hB:s.size≤400∧i≤400)(hr:Rd w b s i):Calls Tryz.prog 149 #[.pointer (some ⟨b,0,none⟩)] w (RP w b s (.tuple #[.agg (oU s i).arr,.bool (fJ s i)]) (i+cT s i)):=by
 by_cases h0:aQ (bt s i)=true
 ·by_cases h1:a9 (bt s (i+1))=true
  ·have hj1:i+1<da s (i+1):=eu _ _
   by_cases h2:a9 (bt s (da s (i+1)))=true
   ·have hj2:da s (i+1)<da s (da s (i+1)):=eu _ _
    have e:i+cT s i=da s (da s (i+1)):=by simp[cT,h0,h1,h2];omega
    have e2:oU s i=wB s i:=by simp[oU,h0,h1,h2]
    have e3:fJ s i=true:=by simp[fJ,h0,h1,h2]
    rw[e,e2,e3];exact Dc s b i w hB hr h0 h1 h2
   ·have h2:a9 (bt s (da s (i+1)))=false:=by simpa using h2
    have e:i+cT s i=da s (i+1):=by simp[cT,h0,h1,h2];omega
    have e2:oU s i=⟨1,bt s i - 97,dx (bt s (i+1)),dD (bt s (i+1)),g9 (bt s (i+1+1)),0,0,0⟩:=by simp[oU,h0,h1,h2]
    have e3:fJ s i=false:=by simp[fJ,h0,h1,h2]
    rw[e,e2,e3];exact BT s b i w hB hr h0 h1 h2
  ·have h1:a9 (bt s (i+1))=false:=by simpa using h1
   have e:cT s i=1:=by simp[cT,h0,h1]
   have e2:oU s i=FZ:=by simp[oU,h0,h1]
   have e3:fJ s i=false:=by simp[fJ,h0,h1]
   rw[e,e2,e3];exact DS s b i w hB hr h0 h1
 ·have h0:aQ (bt s i)=false:=by simpa using h0
  have e:cT s i=0:=by simp[cT,h0]
  have e2:oU s i=FZ:=by simp[oU,h0]
  have e3:fJ s i=false:=by simp[fJ,h0]
  rw[e,e2,e3];exact DO s b i w hB hr h0
theorem D5 (s:ByteArray)(b i:Nat)(w:World)(hB:s.size≤400∧i≤400)(hr:Rd w b s i):Calls Tryz.prog 150 #[.pointer (some ⟨b,0,none⟩)] w (RP w b s (.tuple #[.agg (q9 s i).arr,.bool (gq s i)]) (i+c8 s i)):=by
 by_cases h0:aQ (bt s i)=true
 ·by_cases h1:a9 (bt s (i+1))=true
  ·have hj1:i+1<da s (i+1):=eu _ _
   have e:i+c8 s i=da s (i+1):=by simp[c8,h0,h1];omega
   have e2:q9 s i=tY s i:=by simp[q9,h0,h1]
   have e3:gq s i=true:=by simp[gq,h0,h1]
   rw[e,e2,e3];exact AD s b i w hB hr h0 h1
  ·have h1:a9 (bt s (i+1))=false:=by simpa using h1
   have e:c8 s i=1:=by simp[c8,h0,h1]
   have e2:q9 s i=⟨2,bt s i - 97,0,0,0,0,0,0⟩:=by simp[q9,h0,h1]
   have e3:gq s i=false:=by simp[gq,h0,h1]
   rw[e,e2,e3];exact Bw s b i w hB hr h0 h1
 ·have h0:aQ (bt s i)=false:=by simpa using h0
  have e:c8 s i=0:=by simp[c8,h0]
  have e2:q9 s i=FZ:=by simp[q9,h0]
  have e3:gq s i=false:=by simp[gq,h0]
  rw[e,e2,e3];exact zi s b i w hB hr h0
theorem uW (s:ByteArray)(b i:Nat)(w:World)(hB:s.size≤400∧i≤400)(hr:Rd w b s i):Calls Tryz.prog 141 #[.pointer (some ⟨b,0,none⟩)] w (RP w b s (.tuple #[.agg (wz s i).arr,.bool (b7 s i)]) (i+aG s i)):=by
 have hs:=hB.1
 by_cases h:bt s i=33
 ·have hlt:i<s.size:=dd (by omega)
  have e1:b7 s i=(bx s (i+1)==3):=by simp[b7,h]
  have e2:i+aG s i=i+1+bx s (i+1):=by simp[aG,h];omega
  have e3:wz s i=mi 2 s (i+1):=by simp[wz,h]
  rw[e1,e2,e3]
  exact DM s b i w hB hr h _ _ _ _ _ _ _ _ _ (fun W hW=>yq s b (i+1) W ⟨hs,by omega⟩ hW 2)
 ·by_cases h1:aQ (bt s i)=true
  ·have e1:b7 s i=(bx s i==3):=by simp[b7,h,h1]
   have e2:aG s i=bx s i:=by simp[aG,h,h1]
   have e3:wz s i=mi 1 s i:=by simp[wz,h,h1]
   rw[e1,e2,e3]
   exact Cw s b i w hB hr h h1 _ _ _ _ _ _ _ _ _ (fun W hW=>yq s b i W hB hW 1)
  ·have h1:aQ (bt s i)=false:=by simpa using h1
   have e1:b7 s i=(bT s i==3):=by simp[b7,h,h1]
   have e2:aG s i=bT s i:=by simp[aG,h,h1]
   have e3:wz s i=oi s i:=by simp[wz,h,h1]
   rw[e1,e2,e3]
   exact zY s b i w hB hr h h1 _ _ _ _ _ _ _ _ _ (fun W hW=>Fg s b i W hB hW)
theorem yT (s:ByteArray)(b i:Nat)(w:World)(hB:s.size≤400∧i≤400)(hr:Rd w b s i):Calls Tryz.prog 142 #[.pointer (some ⟨b,0,none⟩)] w (RP w b s (.tuple #[.agg (vN s i).arr,.bool (cU s i)]) (i+aR s i)):=by
 have hs:=hB.1
 by_cases h:bt s i=43
 ·have hlt:i<s.size:=dd (by omega)
  have e1:cU s i=fJ s (i+1):=by simp[cU,h]
  have e2:i+aR s i=i+1+cT s (i+1):=by simp[aR,h];omega
  have e3:vN s i=oU s (i+1):=by simp[vN,h]
  rw[e1,e2,e3]
  exact CD s b i w hB hr h _ _ _ _ _ _ _ _ _ _ (fun W hW=>D8 s b (i+1) W ⟨hs,by omega⟩ hW)
 ·by_cases h1:bt s i=45
  ·have hlt:i<s.size:=dd (by omega)
   have e1:cU s i=gq s (i+1):=by simp[cU,h1]
   have e2:i+aR s i=i+1+c8 s (i+1):=by simp[aR,h1];omega
   have e3:vN s i=q9 s (i+1):=by simp[vN,h1]
   rw[e1,e2,e3]
   exact Ai s b i w hB hr h1 _ _ _ _ _ _ _ _ _ _ (fun W hW=>D5 s b (i+1) W ⟨hs,by omega⟩ hW)
  ·have e3:vN s i=⟨3,0,0,0,0,0,0,0⟩:=by simp[vN,h,h1]
   by_cases h2:bt s i=46
   ·have e1:cU s i=true:=by simp[cU,h2]
    have e2:aR s i=1:=by simp[aR,h2]
    rw[e1,e2,e3]
    exact Dd s b i w hB hr h2
   ·have e1:cU s i=false:=by simp[cU,h,h1,h2]
    have e2:aR s i=0:=by simp[aR,h,h1,h2]
    rw[e1,e2,e3]
    exact B0 s b i w hB hr h h1 h2
end Go.Proofs.YthlhbjnkohinmaaGreat
