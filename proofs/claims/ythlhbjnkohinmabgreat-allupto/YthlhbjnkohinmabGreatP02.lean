import Derived.Test.YthlhbjnkohinmabGreatP01
namespace Go.Proofs.YthlhbjnkohinmabGreat
set_option maxRecDepth 100000
set_option maxHeartbeats 8000000
open Go.RowKit
structure Cd where
 k:Int
 c:Int
 g:Int
 a1:Int
 a2:Int
 b1:Int
 b2:Int
structure Ac where
 k:Int
 c:Int
 a1:Int
 a2:Int
 a3:Int
 b1:Int
 b2:Int
 b3:Int
abbrev Cd.arr (x:Cd):Array Value:=#[.int .i64 x.k,.int .i64 x.c,.int .u8 x.g,.int .i64 x.a1,.int .i64 x.a2,.int .i64 x.b1,.int .i64 x.b2]
abbrev Ac.arr (x:Ac):Array Value:=#[.int .i64 x.k,.int .i64 x.c,.int .i64 x.a1,.int .i64 x.a2,.int .i64 x.a3,.int .i64 x.b1,.int .i64 x.b2,.int .i64 x.b3]
theorem CJ (s:ByteArray)(b i:Nat)(w:World)(hB:s.size≤400∧i≤400)(hr:Rd w b s i)(h:bt s i=33)(x0 x1 x2 x3 x4 x5 x6:Int)(ok:Bool)(j:Nat)(hp:∀ W,Rd W b s (i+1)→Calls Tryz.prog 141 #[.pointer (some ⟨b,0,none⟩),.int .i64 2] W (RP W b s (.tuple #[.agg #[.int .i64 x0,.int .i64 x1,.int .u8 x2,.int .i64 x3,.int .i64 x4,.int .i64 x5,.int .i64 x6],.bool ok]) j)):Calls Tryz.prog 135 #[.pointer (some ⟨b,0,none⟩)] w (RP w b s (.tuple #[.agg #[.int .i64 x0,.int .i64 x1,.int .u8 x2,.int .i64 x3,.int .i64 x4,.int .i64 x5,.int .i64 x6],.bool ok]) (j)):=by
 have hl:=hr.lt
 have hne:w.heap.size≠b:=by omega
 have hs:=hB.1
 have H:Hid (bt s i=33):=h
 clear h
 go_enter Tryz.func135,Tryz.ntmps135
 go_wp2_with fail
 go_at_call 117
 refine (eT s b i _ hB (hr.alloc _) 33 H.out).mono ?_
 rintro e w1 ⟨rfl,hr1,hg1⟩
 obtain⟨⟨hc1,hf1⟩,hn1,hzw1,hyw1,hxw1,hk1⟩:=nx hr1 hg1 (by omega)
 go_wp2_with fail
 go_at_call 141
 refine (hp _ (by with_reducible repeat' (first|assumption|refine Rd.alloc ?_ _|refine Rd.drewN ?_ _|refine Rd.step ?_|refine Rd.other ?_ ?_ _|(simp;omega)))).mono ?_
 rintro e w2 ⟨rfl,hr2,hg2⟩
 obtain⟨hc2,hf2⟩:=cN hg2
 have hn2:w2.heap.size≠b:=by have:=hr2.lt;omega
 have hzw2:w.heap.size<w2.heap.size:=by have:=hg2.size;(try simp at this);omega
 have hyw2:=Nat.le_of_lt hzw2
 have hxw2:=Nat.ne_of_lt hzw2
 have hk2:=af ((hg2.block w.heap.size (by (try simp);omega) (by simp;omega)).trans hk1.out)
 go_wp2
 refine bodyPost_ret (v:=.tuple #[.agg #[.int .i64 x0,.int .i64 x1,.int .u8 x2,.int .i64 x3,.int .i64 x4,.int .i64 x5,.int .i64 x6],.bool ok]) (aO Tryz.results135 rfl (bl 6 (bl 5 (bl 4 (bl 3 (bl 2 (bl 1 (bl 0 hk2.out))))))) Tryz.underlying205 rfl (by kernel_rfl) rfl) rfl ⟨rfl,?_,?_⟩
 ·with_reducible repeat' (first|assumption|refine Rd.alloc ?_ _|refine Rd.drewN ?_ _|refine Rd.step ?_|refine Rd.other ?_ ?_ _|(simp;omega))
 ·with_reducible repeat' (first|assumption|exact ag _ _|refine aj ?_ ?_ _|refine ab ?_ _|refine al ?_ _|refine ae ?_ (by assumption)|(right;simp;done)|(right;simp;omega)|(left;rfl))
theorem CY (s:ByteArray)(b i:Nat)(w:World)(hB:s.size≤400∧i≤400)(hr:Rd w b s i)(h:¬bt s i=33)(h1:aU (bt s i)=true)(x0 x1 x2 x3 x4 x5 x6:Int)(ok:Bool)(j:Nat)(hp:∀ W,Rd W b s (i)→Calls Tryz.prog 141 #[.pointer (some ⟨b,0,none⟩),.int .i64 1] W (RP W b s (.tuple #[.agg #[.int .i64 x0,.int .i64 x1,.int .u8 x2,.int .i64 x3,.int .i64 x4,.int .i64 x5,.int .i64 x6],.bool ok]) j)):Calls Tryz.prog 135 #[.pointer (some ⟨b,0,none⟩)] w (RP w b s (.tuple #[.agg #[.int .i64 x0,.int .i64 x1,.int .u8 x2,.int .i64 x3,.int .i64 x4,.int .i64 x5,.int .i64 x6],.bool ok]) (j)):=by
 have hl:=hr.lt
 have hne:w.heap.size≠b:=by omega
 have hs:=hB.1
 have H:Hid (¬bt s i=33):=h
 clear h
 have hb:=bY s i
 go_enter Tryz.func135,Tryz.ntmps135
 go_wp2_with fail
 go_at_call 117
 refine (dl s b i _ hB (hr.alloc _) 33 H.out).mono ?_
 rintro e w1 ⟨rfl,hr1,hg1⟩
 obtain⟨⟨hc1,hf1⟩,hn1,hzw1,hyw1,hxw1,hk1⟩:=nx hr1 hg1 (by omega)
 go_wp2_with fail
 go_at_call 134
 refine (eN s b i _ hs hr1).mono ?_
 rintro e w' ⟨rfl,n,rfl⟩
 go_wp2_with fail
 go_at_call 76
 refine (mw _ _ hb.1 hb.2 h1).mono ?_
 rintro e w' ⟨rfl,rfl⟩
 go_wp2_with fail
 go_at_call 141
 refine (hp _ (by with_reducible repeat' (first|assumption|refine Rd.alloc ?_ _|refine Rd.drewN ?_ _|refine Rd.step ?_|refine Rd.other ?_ ?_ _|(simp;omega)))).mono ?_
 rintro e w2 ⟨rfl,hr2,hg2⟩
 replace hg2:=cD hg2
 obtain⟨hc2,hf2⟩:=cN hg2
 have hn2:w2.heap.size≠b:=by have:=hr2.lt;omega
 have hzw2:w.heap.size<w2.heap.size:=by have:=hg2.size;(try simp at this);omega
 have hyw2:=Nat.le_of_lt hzw2
 have hxw2:=Nat.ne_of_lt hzw2
 have hk2:=af ((hg2.block w.heap.size (by (try simp);omega) (by simp;omega)).trans hk1.out)
 go_wp2
 refine bodyPost_ret (v:=.tuple #[.agg #[.int .i64 x0,.int .i64 x1,.int .u8 x2,.int .i64 x3,.int .i64 x4,.int .i64 x5,.int .i64 x6],.bool ok]) (aO Tryz.results135 rfl (bl 6 (bl 5 (bl 4 (bl 3 (bl 2 (bl 1 (bl 0 hk2.out))))))) Tryz.underlying205 rfl (by kernel_rfl) rfl) rfl ⟨rfl,?_,?_⟩
 ·with_reducible repeat' (first|assumption|refine Rd.alloc ?_ _|refine Rd.drewN ?_ _|refine Rd.step ?_|refine Rd.other ?_ ?_ _|(simp;omega))
 ·with_reducible repeat' (first|assumption|exact ag _ _|refine aj ?_ ?_ _|refine ab ?_ _|refine al ?_ _|refine ae ?_ (by assumption)|(right;simp;done)|(right;simp;omega)|(left;rfl))
theorem BM (s:ByteArray)(b i:Nat)(w:World)(hB:s.size≤400∧i≤400)(hr:Rd w b s i)(h:¬bt s i=33)(h1:aU (bt s i)=false)(x0 x1 x2 x3 x4 x5 x6:Int)(ok:Bool)(j:Nat)(hp:∀ W,Rd W b s (i)→Calls Tryz.prog 142 #[.pointer (some ⟨b,0,none⟩)] W (RP W b s (.tuple #[.agg #[.int .i64 x0,.int .i64 x1,.int .u8 x2,.int .i64 x3,.int .i64 x4,.int .i64 x5,.int .i64 x6],.bool ok]) j)):Calls Tryz.prog 135 #[.pointer (some ⟨b,0,none⟩)] w (RP w b s (.tuple #[.agg #[.int .i64 x0,.int .i64 x1,.int .u8 x2,.int .i64 x3,.int .i64 x4,.int .i64 x5,.int .i64 x6],.bool ok]) (j)):=by
 have hl:=hr.lt
 have hne:w.heap.size≠b:=by omega
 have hs:=hB.1
 have H:Hid (¬bt s i=33):=h
 clear h
 have hb:=bY s i
 go_enter Tryz.func135,Tryz.ntmps135
 go_wp2_with fail
 go_at_call 117
 refine (dl s b i _ hB (hr.alloc _) 33 H.out).mono ?_
 rintro e w1 ⟨rfl,hr1,hg1⟩
 obtain⟨⟨hc1,hf1⟩,hn1,hzw1,hyw1,hxw1,hk1⟩:=nx hr1 hg1 (by omega)
 go_wp2_with fail
 go_at_call 134
 refine (eN s b i _ hs hr1).mono ?_
 rintro e w' ⟨rfl,n,rfl⟩
 go_wp2_with fail
 go_at_call 76
 refine (nW _ _ hb.1 hb.2 h1).mono ?_
 rintro e w' ⟨rfl,rfl⟩
 go_wp2_with fail
 go_at_call 142
 refine (hp _ (by with_reducible repeat' (first|assumption|refine Rd.alloc ?_ _|refine Rd.drewN ?_ _|refine Rd.step ?_|refine Rd.other ?_ ?_ _|(simp;omega)))).mono ?_
 rintro e w2 ⟨rfl,hr2,hg2⟩
 replace hg2:=cD hg2
 obtain⟨hc2,hf2⟩:=cN hg2
 have hn2:w2.heap.size≠b:=by have:=hr2.lt;omega
 have hzw2:w.heap.size<w2.heap.size:=by have:=hg2.size;(try simp at this);omega
 have hyw2:=Nat.le_of_lt hzw2
 have hxw2:=Nat.ne_of_lt hzw2
 have hk2:=af ((hg2.block w.heap.size (by (try simp);omega) (by simp;omega)).trans hk1.out)
 go_wp2
 refine bodyPost_ret (v:=.tuple #[.agg #[.int .i64 x0,.int .i64 x1,.int .u8 x2,.int .i64 x3,.int .i64 x4,.int .i64 x5,.int .i64 x6],.bool ok]) (aO Tryz.results135 rfl (bl 6 (bl 5 (bl 4 (bl 3 (bl 2 (bl 1 (bl 0 hk2.out))))))) Tryz.underlying205 rfl (by kernel_rfl) rfl) rfl ⟨rfl,?_,?_⟩
 ·with_reducible repeat' (first|assumption|refine Rd.alloc ?_ _|refine Rd.drewN ?_ _|refine Rd.step ?_|refine Rd.other ?_ ?_ _|(simp;omega))
 ·with_reducible repeat' (first|assumption|exact ag _ _|refine aj ?_ ?_ _|refine ab ?_ _|refine al ?_ _|refine ae ?_ (by assumption)|(right;simp;done)|(right;simp;omega)|(left;rfl))
theorem Do (s:ByteArray)(b i:Nat)(w:World)(hB:s.size≤400∧i≤400)(hr:Rd w b s i)(h:bt s i=43)(x0 x1 x2 x3 x4 x5 x6 x7:Int)(ok:Bool)(j:Nat)(hp:∀ W,Rd W b s (i+1)→Calls Tryz.prog 143 #[.pointer (some ⟨b,0,none⟩)] W (RP W b s (.tuple #[.agg #[.int .i64 x0,.int .i64 x1,.int .i64 x2,.int .i64 x3,.int .i64 x4,.int .i64 x5,.int .i64 x6,.int .i64 x7],.bool ok]) j)):Calls Tryz.prog 136 #[.pointer (some ⟨b,0,none⟩)] w (RP w b s (.tuple #[.agg #[.int .i64 x0,.int .i64 x1,.int .i64 x2,.int .i64 x3,.int .i64 x4,.int .i64 x5,.int .i64 x6,.int .i64 x7],.bool ok]) (j)):=by
 have hl:=hr.lt
 have hne:w.heap.size≠b:=by omega
 have hs:=hB.1
 have H:Hid (bt s i=43):=h
 clear h
 go_enter Tryz.func136,Tryz.ntmps136
 go_wp2_with fail
 go_at_call 117
 refine (eT s b i _ hB (hr.alloc _) 43 H.out).mono ?_
 rintro e w1 ⟨rfl,hr1,hg1⟩
 obtain⟨⟨hc1,hf1⟩,hn1,hzw1,hyw1,hxw1,hk1⟩:=nx hr1 hg1 (by omega)
 go_wp2_with fail
 go_at_call 143
 refine (hp _ (by with_reducible repeat' (first|assumption|refine Rd.alloc ?_ _|refine Rd.drewN ?_ _|refine Rd.step ?_|refine Rd.other ?_ ?_ _|(simp;omega)))).mono ?_
 rintro e w2 ⟨rfl,hr2,hg2⟩
 obtain⟨hc2,hf2⟩:=cN hg2
 have hn2:w2.heap.size≠b:=by have:=hr2.lt;omega
 have hzw2:w.heap.size<w2.heap.size:=by have:=hg2.size;(try simp at this);omega
 have hyw2:=Nat.le_of_lt hzw2
 have hxw2:=Nat.ne_of_lt hzw2
 have hk2:=af ((hg2.block w.heap.size (by (try simp);omega) (by simp;omega)).trans hk1.out)
 go_wp2
 refine bodyPost_ret (v:=.tuple #[.agg #[.int .i64 x0,.int .i64 x1,.int .i64 x2,.int .i64 x3,.int .i64 x4,.int .i64 x5,.int .i64 x6,.int .i64 x7],.bool ok]) (aO Tryz.results136 rfl (bl 7 (bl 6 (bl 5 (bl 4 (bl 3 (bl 2 (bl 1 (bl 0 hk2.out)))))))) Tryz.underlying218 rfl (by kernel_rfl) rfl) rfl ⟨rfl,?_,?_⟩
 ·with_reducible repeat' (first|assumption|refine Rd.alloc ?_ _|refine Rd.drewN ?_ _|refine Rd.step ?_|refine Rd.other ?_ ?_ _|(simp;omega))
 ·with_reducible repeat' (first|assumption|exact ag _ _|refine aj ?_ ?_ _|refine ab ?_ _|refine al ?_ _|refine ae ?_ (by assumption)|(right;simp;done)|(right;simp;omega)|(left;rfl))
theorem Aw (s:ByteArray)(b i:Nat)(w:World)(hB:s.size≤400∧i≤400)(hr:Rd w b s i)(h:bt s i=45)(x0 x1 x2 x3 x4 x5 x6 x7:Int)(ok:Bool)(j:Nat)(hp:∀ W,Rd W b s (i+1)→Calls Tryz.prog 144 #[.pointer (some ⟨b,0,none⟩)] W (RP W b s (.tuple #[.agg #[.int .i64 x0,.int .i64 x1,.int .i64 x2,.int .i64 x3,.int .i64 x4,.int .i64 x5,.int .i64 x6,.int .i64 x7],.bool ok]) j)):Calls Tryz.prog 136 #[.pointer (some ⟨b,0,none⟩)] w (RP w b s (.tuple #[.agg #[.int .i64 x0,.int .i64 x1,.int .i64 x2,.int .i64 x3,.int .i64 x4,.int .i64 x5,.int .i64 x6,.int .i64 x7],.bool ok]) (j)):=by
 have hl:=hr.lt
 have hne:w.heap.size≠b:=by omega
 have hs:=hB.1
 have H:Hid (bt s i=45):=h
 have H1:Hid (¬bt s i=43):=by intro hx;omega
 clear h
 go_enter Tryz.func136,Tryz.ntmps136
 go_wp2_with fail
 go_at_call 117
 refine (dl s b i _ hB (hr.alloc _) 43 H1.out).mono ?_
 rintro e w1 ⟨rfl,hr1,hg1⟩
 obtain⟨⟨hc1,hf1⟩,hn1,hzw1,hyw1,hxw1,hk1⟩:=nx hr1 hg1 (by omega)
 go_wp2_with fail
 go_at_call 117
 refine (eT s b i _ hB (by with_reducible repeat' (first|assumption|refine Rd.alloc ?_ _|refine Rd.drewN ?_ _|refine Rd.step ?_|refine Rd.other ?_ ?_ _|(simp;omega))) 45 H.out).mono ?_
 rintro e w2 ⟨rfl,hr2,hg2⟩
 obtain⟨hc2,hf2⟩:=cN hg2
 have hn2:w2.heap.size≠b:=by have:=hr2.lt;omega
 have hzw2:w.heap.size<w2.heap.size:=by have:=hg2.size;(try simp at this);omega
 have hyw2:=Nat.le_of_lt hzw2
 have hxw2:=Nat.ne_of_lt hzw2
 have hk2:=af ((hg2.block w.heap.size (by (try simp);omega) (by simp;omega)).trans hk1.out)
 go_wp2_with fail
 go_at_call 144
 refine (hp _ (by with_reducible repeat' (first|assumption|refine Rd.alloc ?_ _|refine Rd.drewN ?_ _|refine Rd.step ?_|refine Rd.other ?_ ?_ _|(simp;omega)))).mono ?_
 rintro e w3 ⟨rfl,hr3,hg3⟩
 obtain⟨hc3,hf3⟩:=cN hg3
 have hn3:w3.heap.size≠b:=by have:=hr3.lt;omega
 have hzw3:w.heap.size<w3.heap.size:=by have:=hg3.size;(try simp at this);omega
 have hyw3:=Nat.le_of_lt hzw3
 have hxw3:=Nat.ne_of_lt hzw3
 have hk3:=af ((hg3.block w.heap.size (by (try simp);omega) (by simp;omega)).trans hk2.out)
 go_wp2
 refine bodyPost_ret (v:=.tuple #[.agg #[.int .i64 x0,.int .i64 x1,.int .i64 x2,.int .i64 x3,.int .i64 x4,.int .i64 x5,.int .i64 x6,.int .i64 x7],.bool ok]) (aO Tryz.results136 rfl (bl 7 (bl 6 (bl 5 (bl 4 (bl 3 (bl 2 (bl 1 (bl 0 hk3.out)))))))) Tryz.underlying218 rfl (by kernel_rfl) rfl) rfl ⟨rfl,?_,?_⟩
 ·with_reducible repeat' (first|assumption|refine Rd.alloc ?_ _|refine Rd.drewN ?_ _|refine Rd.step ?_|refine Rd.other ?_ ?_ _|(simp;omega))
 ·with_reducible repeat' (first|assumption|exact ag _ _|refine aj ?_ ?_ _|refine ab ?_ _|refine al ?_ _|refine ae ?_ (by assumption)|(right;simp;done)|(right;simp;omega)|(left;rfl))
theorem Dw (s:ByteArray)(b i:Nat)(w:World)(hB:s.size≤400∧i≤400)(hr:Rd w b s i)(h:bt s i=46):Calls Tryz.prog 136 #[.pointer (some ⟨b,0,none⟩)] w (RP w b s (.tuple #[.agg #[.int .i64 3,.int .i64 0,.int .i64 0,.int .i64 0,.int .i64 0,.int .i64 0,.int .i64 0,.int .i64 0],.bool true]) (i+1)):=by
 have hl:=hr.lt
 have hne:w.heap.size≠b:=by omega
 have hs:=hB.1
 have H:Hid (bt s i=46):=h
 have H1:Hid (¬bt s i=43):=by intro hx;omega
 have H2:Hid (¬bt s i=45):=by intro hx;omega
 clear h
 go_enter Tryz.func136,Tryz.ntmps136
 go_wp2_with fail
 go_at_call 117
 refine (dl s b i _ hB (hr.alloc _) 43 H1.out).mono ?_
 rintro e w1 ⟨rfl,hr1,hg1⟩
 obtain⟨⟨hc1,hf1⟩,hn1,hzw1,hyw1,hxw1,hk1⟩:=nx hr1 hg1 (by omega)
 go_wp2_with fail
 go_at_call 117
 refine (dl s b i _ hB (by with_reducible repeat' (first|assumption|refine Rd.alloc ?_ _|refine Rd.drewN ?_ _|refine Rd.step ?_|refine Rd.other ?_ ?_ _|(simp;omega))) 45 H2.out).mono ?_
 rintro e w2 ⟨rfl,hr2,hg2⟩
 obtain⟨hc2,hf2⟩:=cN hg2
 have hn2:w2.heap.size≠b:=by have:=hr2.lt;omega
 have hzw2:w.heap.size<w2.heap.size:=by have:=hg2.size;(try simp at this);omega
 have hyw2:=Nat.le_of_lt hzw2
 have hxw2:=Nat.ne_of_lt hzw2
 have hk2:=af ((hg2.block w.heap.size (by (try simp);omega) (by simp;omega)).trans hk1.out)
 go_wp2_with fail
 go_at_call 117
 refine (eT s b i _ hB (by with_reducible repeat' (first|assumption|refine Rd.alloc ?_ _|refine Rd.drewN ?_ _|refine Rd.step ?_|refine Rd.other ?_ ?_ _|(simp;omega))) 46 H.out).mono ?_
 rintro e w3 ⟨rfl,hr3,hg3⟩
 obtain⟨hc3,hf3⟩:=cN hg3
 have hn3:w3.heap.size≠b:=by have:=hr3.lt;omega
 have hzw3:w.heap.size<w3.heap.size:=by have:=hg3.size;(try simp at this);omega
 have hyw3:=Nat.le_of_lt hzw3
 have hxw3:=Nat.ne_of_lt hzw3
 have hk3:=af ((hg3.block w.heap.size (by (try simp);omega) (by simp;omega)).trans hk2.out)
 go_wp2
 refine bodyPost_ret (v:=.tuple #[.agg #[.int .i64 3,.int .i64 0,.int .i64 0,.int .i64 0,.int .i64 0,.int .i64 0,.int .i64 0,.int .i64 0],.bool true]) (aO Tryz.results136 rfl (bl 7 (bl 6 (bl 5 (bl 4 (bl 3 (bl 2 (bl 1 (bl 0 hk3.out)))))))) Tryz.underlying218 rfl (by kernel_rfl) rfl) rfl ⟨rfl,?_,?_⟩
 ·with_reducible repeat' (first|assumption|refine Rd.alloc ?_ _|refine Rd.drewN ?_ _|refine Rd.step ?_|refine Rd.other ?_ ?_ _|(simp;omega))
 ·with_reducible repeat' (first|assumption|exact ag _ _|refine aj ?_ ?_ _|refine ab ?_ _|refine al ?_ _|refine ae ?_ (by assumption)|(right;simp;done)|(right;simp;omega)|(left;rfl))
theorem DP (s:ByteArray)(b i:Nat)(w:World)(hB:s.size≤400∧i≤400)(hr:Rd w b s i)(h0:¬bt s i=43)(h1:¬bt s i=45)(h2:¬bt s i=46):Calls Tryz.prog 136 #[.pointer (some ⟨b,0,none⟩)] w (RP w b s (.tuple #[.agg #[.int .i64 3,.int .i64 0,.int .i64 0,.int .i64 0,.int .i64 0,.int .i64 0,.int .i64 0,.int .i64 0],.bool false]) (i)):=by
 have hl:=hr.lt
 have hne:w.heap.size≠b:=by omega
 have hs:=hB.1
 have H:Hid (¬bt s i=46):=h2
 have H1:Hid (¬bt s i=43):=h0
 have H2:Hid (¬bt s i=45):=h1
 clear h0 h1 h2
 go_enter Tryz.func136,Tryz.ntmps136
 go_wp2_with fail
 go_at_call 117
 refine (dl s b i _ hB (hr.alloc _) 43 H1.out).mono ?_
 rintro e w1 ⟨rfl,hr1,hg1⟩
 obtain⟨⟨hc1,hf1⟩,hn1,hzw1,hyw1,hxw1,hk1⟩:=nx hr1 hg1 (by omega)
 go_wp2_with fail
 go_at_call 117
 refine (dl s b i _ hB (by with_reducible repeat' (first|assumption|refine Rd.alloc ?_ _|refine Rd.drewN ?_ _|refine Rd.step ?_|refine Rd.other ?_ ?_ _|(simp;omega))) 45 H2.out).mono ?_
 rintro e w2 ⟨rfl,hr2,hg2⟩
 obtain⟨hc2,hf2⟩:=cN hg2
 have hn2:w2.heap.size≠b:=by have:=hr2.lt;omega
 have hzw2:w.heap.size<w2.heap.size:=by have:=hg2.size;(try simp at this);omega
 have hyw2:=Nat.le_of_lt hzw2
 have hxw2:=Nat.ne_of_lt hzw2
 have hk2:=af ((hg2.block w.heap.size (by (try simp);omega) (by simp;omega)).trans hk1.out)
 go_wp2_with fail
 go_at_call 117
 refine (dl s b i _ hB (by with_reducible repeat' (first|assumption|refine Rd.alloc ?_ _|refine Rd.drewN ?_ _|refine Rd.step ?_|refine Rd.other ?_ ?_ _|(simp;omega))) 46 H.out).mono ?_
 rintro e w3 ⟨rfl,hr3,hg3⟩
 obtain⟨hc3,hf3⟩:=cN hg3
 have hn3:w3.heap.size≠b:=by have:=hr3.lt;omega
 have hzw3:w.heap.size<w3.heap.size:=by have:=hg3.size;(try simp at this);omega
 have hyw3:=Nat.le_of_lt hzw3
 have hxw3:=Nat.ne_of_lt hzw3
 have hk3:=af ((hg3.block w.heap.size (by (try simp);omega) (by simp;omega)).trans hk2.out)
 go_wp2
 refine bodyPost_ret (v:=.tuple #[.agg #[.int .i64 3,.int .i64 0,.int .i64 0,.int .i64 0,.int .i64 0,.int .i64 0,.int .i64 0,.int .i64 0],.bool false]) (aO Tryz.results136 rfl (bl 7 (bl 6 (bl 5 (bl 4 (bl 3 (bl 2 (bl 1 (bl 0 hk3.out)))))))) Tryz.underlying218 rfl (by kernel_rfl) rfl) rfl ⟨rfl,?_,?_⟩
 ·with_reducible repeat' (first|assumption|refine Rd.alloc ?_ _|refine Rd.drewN ?_ _|refine Rd.step ?_|refine Rd.other ?_ ?_ _|(simp;omega))
 ·with_reducible repeat' (first|assumption|exact ag _ _|refine aj ?_ ?_ _|refine ab ?_ _|refine al ?_ _|refine ae ?_ (by assumption)|(right;simp;done)|(right;simp;omega)|(left;rfl))
def bx (s:ByteArray)(i:Nat):Nat:=if aU (bt s i) then (if c8 (bt s (i+1)) then (if c8 (bt s (i+2)) then 3 else 2) else 1) else 0
def bT (s:ByteArray)(i:Nat):Nat:=if bg (bt s i) then (if gI (bt s (i+1)) then (if bg (bt s (i+2)) then 3 else 2) else 1) else 0
def aH (s:ByteArray)(i:Nat):Nat:=if bt s i=33 then 1+bx s (i+1) else if aU (bt s i) then bx s i else bT s i
def b9 (s:ByteArray)(i:Nat):Bool:=if bt s i=33 then bx s (i+1)==3 else if aU (bt s i) then bx s i==3 else bT s i==3
def l4 (kind:Int)(s:ByteArray)(i:Nat):Cd:=⟨kind,bt s i - 97,0,dw (bt s (i+1)),dD (bt s (i+1)),dw (bt s (i+2)),dD (bt s (i+2))⟩
def rq (s:ByteArray)(i:Nat):Cd:=⟨3,0,bt s (i+1),dw (bt s i),dD (bt s i),dw (bt s (i+2)),dD (bt s (i+2))⟩
def df (s:ByteArray)(i:Nat):Cd:=if bt s i=33 then l4 2 s (i+1) else if aU (bt s i) then l4 1 s i else rq s i
def cP (s:ByteArray)(i:Nat):Nat:=if aU (bt s i) then (if bg (bt s (i+1)) then (if bg (bt s (da s (i+1))) then da s (da s (i+1)) - i else da s (i+1) - i) else 1) else 0
def fL (s:ByteArray)(i:Nat):Bool:=aU (bt s i)&&bg (bt s (i+1))&&bg (bt s (da s (i+1)))
def c9 (s:ByteArray)(i:Nat):Nat:=if aU (bt s i) then (if bg (bt s (i+1)) then da s (i+1) - i else 1) else 0
def gm (s:ByteArray)(i:Nat):Bool:=aU (bt s i)&&bg (bt s (i+1))
def aR (s:ByteArray)(i:Nat):Nat:=if bt s i=43 then 1+cP s (i+1) else if bt s i=45 then 1+c9 s (i+1) else if bt s i=46 then 1 else 0
def cU (s:ByteArray)(i:Nat):Bool:=if bt s i=43 then fL s (i+1) else if bt s i=45 then gm s (i+1) else bt s i==46
def yf (s:ByteArray)(i:Nat):Ac:=⟨1,bt s i - 97,dw (bt s (i+1)),dD (bt s (i+1)),g9 (bt s (i+1+1)),dw (bt s (da s (i+1))),dD (bt s (da s (i+1))),g9 (bt s (da s (i+1)+1))⟩
def v8 (s:ByteArray)(i:Nat):Ac:=⟨2,bt s i - 97,dw (bt s (i+1)),dD (bt s (i+1)),g9 (bt s (i+1+1)),0,0,0⟩
def ed (s:ByteArray)(i:Nat):Ac:=if bt s i=43 then yf s (i+1) else if bt s i=45 then v8 s (i+1) else ⟨3,0,0,0,0,0,0,0⟩
theorem ep (s:ByteArray)(i:Nat):i<da s i:=by unfold da;split <;> omega
def Fp:Cd:=⟨0,0,0,0,0,0,0⟩
def F6:Ac:=⟨0,0,0,0,0,0,0,0⟩
def lV (kind:Int)(s:ByteArray)(i:Nat):Cd:=if aU (bt s i) then (if c8 (bt s (i+1)) then (if c8 (bt s (i+2)) then l4 kind s i else ⟨kind,bt s i - 97,0,dw (bt s (i+1)),dD (bt s (i+1)),0,0⟩) else Fp) else Fp
def nZ (s:ByteArray)(i:Nat):Cd:=if bg (bt s i) then (if gI (bt s (i+1)) then (if bg (bt s (i+2)) then rq s i else ⟨3,0,bt s (i+1),dw (bt s i),dD (bt s i),0,0⟩) else Fp) else Fp
def wF (s:ByteArray)(i:Nat):Cd:=if bt s i=33 then lV 2 s (i+1) else if aU (bt s i) then lV 1 s i else nZ s i
def o8 (s:ByteArray)(i:Nat):Ac:=if aU (bt s i) then (if bg (bt s (i+1)) then (if bg (bt s (da s (i+1))) then yf s i else ⟨1,bt s i - 97,dw (bt s (i+1)),dD (bt s (i+1)),g9 (bt s (i+1+1)),0,0,0⟩) else F6) else F6
def rp (s:ByteArray)(i:Nat):Ac:=if aU (bt s i) then (if bg (bt s (i+1)) then v8 s i else ⟨2,bt s i - 97,0,0,0,0,0,0⟩) else F6
def vP (s:ByteArray)(i:Nat):Ac:=if bt s i=43 then o8 s (i+1) else if bt s i=45 then rp s (i+1) else ⟨3,0,0,0,0,0,0,0⟩
theorem zl {kind:Int}{s:ByteArray}{i:Nat}(h:bx s i=3):lV kind s i=l4 kind s i:=by
 unfold bx at h;unfold lV
 split at h
 ·split at h
  ·split at h
   ·simp[*]
   ·omega
  ·omega
 ·omega
theorem EX {s:ByteArray}{i:Nat}(h:bT s i=3):nZ s i=rq s i:=by
 unfold bT at h;unfold nZ
 split at h
 ·split at h
  ·split at h
   ·simp[*]
   ·omega
  ·omega
 ·omega
theorem F2 {s:ByteArray}{i:Nat}(h:b9 s i=true):wF s i=df s i:=by
 unfold b9 at h;unfold wF df
 by_cases h1:bt s i=33
 ·simp only[h1,if_true] at h ⊢;exact zl (by simpa using h)
 ·by_cases h2:aU (bt s i)=true
  ·simp only[h1,h2,if_false,if_true] at h ⊢;exact zl (by simpa using h)
  ·simp only[h1,h2,if_false] at h ⊢;exact EX (by simpa using h)
theorem FG {s:ByteArray}{i:Nat}(h:cU s i=true):vP s i=ed s i:=by
 unfold cU at h;unfold vP ed
 by_cases h1:bt s i=43
 ·simp only[h1,if_true] at h ⊢;simp[fL] at h;simp[o8,h]
 ·by_cases h2:bt s i=45
  ·simp only[h2,if_true] at h ⊢;simp[gm] at h;simp[rp,h]
  ·simp only[h1,h2,if_false]
theorem yK (s:ByteArray)(b i:Nat)(w:World)(hB:s.size≤400∧i≤400)(hr:Rd w b s i)(kind:Int):Calls Tryz.prog 141 #[.pointer (some ⟨b,0,none⟩),.int .i64 kind] w (RP w b s (.tuple #[.agg (lV kind s i).arr,.bool (bx s i==3)]) (i+bx s i)):=by
 by_cases h0:aU (bt s i)=true
 ·by_cases h1:c8 (bt s (i+1))=true
  ·by_cases h2:c8 (bt s (i+2))=true
   ·have e:bx s i=3:=by simp[bx,h0,h1,h2]
    have e2:lV kind s i=l4 kind s i:=by simp[lV,h0,h1,h2]
    rw[e,e2];exact vW s b i w hB hr kind h0 h1 h2
   ·have h2:c8 (bt s (i+2))=false:=by simpa using h2
    have e:bx s i=2:=by simp[bx,h0,h1,h2]
    have e2:lV kind s i=⟨kind,bt s i - 97,0,dw (bt s (i+1)),dD (bt s (i+1)),0,0⟩:=by simp[lV,h0,h1,h2]
    rw[e,e2];exact tY s b i w hB hr kind h0 h1 h2
  ·have h1:c8 (bt s (i+1))=false:=by simpa using h1
   have e:bx s i=1:=by simp[bx,h0,h1]
   have e2:lV kind s i=Fp:=by simp[lV,h0,h1]
   rw[e,e2];exact ve s b i w hB hr kind h0 h1
 ·have h0:aU (bt s i)=false:=by simpa using h0
  have e:bx s i=0:=by simp[bx,h0]
  have e2:lV kind s i=Fp:=by simp[lV,h0]
  rw[e,e2];exact vY s b i w hB hr kind h0
theorem Ek (s:ByteArray)(b i:Nat)(w:World)(hB:s.size≤400∧i≤400)(hr:Rd w b s i):Calls Tryz.prog 142 #[.pointer (some ⟨b,0,none⟩)] w (RP w b s (.tuple #[.agg (nZ s i).arr,.bool (bT s i==3)]) (i+bT s i)):=by
 by_cases h0:bg (bt s i)=true
 ·by_cases h1:gI (bt s (i+1))=true
  ·by_cases h2:bg (bt s (i+2))=true
   ·have e:bT s i=3:=by simp[bT,h0,h1,h2]
    have e2:nZ s i=rq s i:=by simp[nZ,h0,h1,h2]
    rw[e,e2];exact C2 s b i w hB hr h0 h1 h2
   ·have h2:bg (bt s (i+2))=false:=by simpa using h2
    have e:bT s i=2:=by simp[bT,h0,h1,h2]
    have e2:nZ s i=⟨3,0,bt s (i+1),dw (bt s i),dD (bt s i),0,0⟩:=by simp[nZ,h0,h1,h2]
    rw[e,e2];exact BZ s b i w hB hr h0 h1 h2
  ·have h1:gI (bt s (i+1))=false:=by simpa using h1
   have e:bT s i=1:=by simp[bT,h0,h1]
   have e2:nZ s i=Fp:=by simp[nZ,h0,h1]
   rw[e,e2];exact CG s b i w hB hr h0 h1
 ·have h0:bg (bt s i)=false:=by simpa using h0
  have e:bT s i=0:=by simp[bT,h0]
  have e2:nZ s i=Fp:=by simp[nZ,h0]
  rw[e,e2];exact Dy s b i w hB hr h0
theorem Fb (s:ByteArray)(b i:Nat)(w:World)(hB:s.size≤400∧i≤400)(hr:Rd w b s i):Calls Tryz.prog 143 #[.pointer (some ⟨b,0,none⟩)] w (RP w b s (.tuple #[.agg (o8 s i).arr,.bool (fL s i)]) (i+cP s i)):=by
 by_cases h0:aU (bt s i)=true
 ·by_cases h1:bg (bt s (i+1))=true
  ·have hj1:i+1<da s (i+1):=ep _ _
   by_cases h2:bg (bt s (da s (i+1)))=true
   ·have hj2:da s (i+1)<da s (da s (i+1)):=ep _ _
    have e:i+cP s i=da s (da s (i+1)):=by simp[cP,h0,h1,h2];omega
    have e2:o8 s i=yf s i:=by simp[o8,h0,h1,h2]
    have e3:fL s i=true:=by simp[fL,h0,h1,h2]
    rw[e,e2,e3];exact DS s b i w hB hr h0 h1 h2
   ·have h2:bg (bt s (da s (i+1)))=false:=by simpa using h2
    have e:i+cP s i=da s (i+1):=by simp[cP,h0,h1,h2];omega
    have e2:o8 s i=⟨1,bt s i - 97,dw (bt s (i+1)),dD (bt s (i+1)),g9 (bt s (i+1+1)),0,0,0⟩:=by simp[o8,h0,h1,h2]
    have e3:fL s i=false:=by simp[fL,h0,h1,h2]
    rw[e,e2,e3];exact DC s b i w hB hr h0 h1 h2
  ·have h1:bg (bt s (i+1))=false:=by simpa using h1
   have e:cP s i=1:=by simp[cP,h0,h1]
   have e2:o8 s i=F6:=by simp[o8,h0,h1]
   have e3:fL s i=false:=by simp[fL,h0,h1]
   rw[e,e2,e3];exact Ci s b i w hB hr h0 h1
 ·have h0:aU (bt s i)=false:=by simpa using h0
  have e:cP s i=0:=by simp[cP,h0]
  have e2:o8 s i=F6:=by simp[o8,h0]
  have e3:fL s i=false:=by simp[fL,h0]
  rw[e,e2,e3];exact C7 s b i w hB hr h0
theorem El (s:ByteArray)(b i:Nat)(w:World)(hB:s.size≤400∧i≤400)(hr:Rd w b s i):Calls Tryz.prog 144 #[.pointer (some ⟨b,0,none⟩)] w (RP w b s (.tuple #[.agg (rp s i).arr,.bool (gm s i)]) (i+c9 s i)):=by
 by_cases h0:aU (bt s i)=true
 ·by_cases h1:bg (bt s (i+1))=true
  ·have hj1:i+1<da s (i+1):=ep _ _
   have e:i+c9 s i=da s (i+1):=by simp[c9,h0,h1];omega
   have e2:rp s i=v8 s i:=by simp[rp,h0,h1]
   have e3:gm s i=true:=by simp[gm,h0,h1]
   rw[e,e2,e3];exact Be s b i w hB hr h0 h1
  ·have h1:bg (bt s (i+1))=false:=by simpa using h1
   have e:c9 s i=1:=by simp[c9,h0,h1]
   have e2:rp s i=⟨2,bt s i - 97,0,0,0,0,0,0⟩:=by simp[rp,h0,h1]
   have e3:gm s i=false:=by simp[gm,h0,h1]
   rw[e,e2,e3];exact Av s b i w hB hr h0 h1
 ·have h0:aU (bt s i)=false:=by simpa using h0
  have e:c9 s i=0:=by simp[c9,h0]
  have e2:rp s i=F6:=by simp[rp,h0]
  have e3:gm s i=false:=by simp[gm,h0]
  rw[e,e2,e3];exact AE s b i w hB hr h0
theorem vh (s:ByteArray)(b i:Nat)(w:World)(hB:s.size≤400∧i≤400)(hr:Rd w b s i):Calls Tryz.prog 135 #[.pointer (some ⟨b,0,none⟩)] w (RP w b s (.tuple #[.agg (wF s i).arr,.bool (b9 s i)]) (i+aH s i)):=by
 have hs:=hB.1
 by_cases h:bt s i=33
 ·have hlt:i<s.size:=dg (by omega)
  have e1:b9 s i=(bx s (i+1)==3):=by simp[b9,h]
  have e2:i+aH s i=i+1+bx s (i+1):=by simp[aH,h];omega
  have e3:wF s i=lV 2 s (i+1):=by simp[wF,h]
  rw[e1,e2,e3]
  exact CJ s b i w hB hr h _ _ _ _ _ _ _ _ _ (fun W hW=>yK s b (i+1) W ⟨hs,by omega⟩ hW 2)
 ·by_cases h1:aU (bt s i)=true
  ·have e1:b9 s i=(bx s i==3):=by simp[b9,h,h1]
   have e2:aH s i=bx s i:=by simp[aH,h,h1]
   have e3:wF s i=lV 1 s i:=by simp[wF,h,h1]
   rw[e1,e2,e3]
   exact CY s b i w hB hr h h1 _ _ _ _ _ _ _ _ _ (fun W hW=>yK s b i W hB hW 1)
  ·have h1:aU (bt s i)=false:=by simpa using h1
   have e1:b9 s i=(bT s i==3):=by simp[b9,h,h1]
   have e2:aH s i=bT s i:=by simp[aH,h,h1]
   have e3:wF s i=nZ s i:=by simp[wF,h,h1]
   rw[e1,e2,e3]
   exact BM s b i w hB hr h h1 _ _ _ _ _ _ _ _ _ (fun W hW=>Ek s b i W hB hW)
theorem zi (s:ByteArray)(b i:Nat)(w:World)(hB:s.size≤400∧i≤400)(hr:Rd w b s i):Calls Tryz.prog 136 #[.pointer (some ⟨b,0,none⟩)] w (RP w b s (.tuple #[.agg (vP s i).arr,.bool (cU s i)]) (i+aR s i)):=by
 have hs:=hB.1
 by_cases h:bt s i=43
 ·have hlt:i<s.size:=dg (by omega)
  have e1:cU s i=fL s (i+1):=by simp[cU,h]
  have e2:i+aR s i=i+1+cP s (i+1):=by simp[aR,h];omega
  have e3:vP s i=o8 s (i+1):=by simp[vP,h]
  rw[e1,e2,e3]
  exact Do s b i w hB hr h _ _ _ _ _ _ _ _ _ _ (fun W hW=>Fb s b (i+1) W ⟨hs,by omega⟩ hW)
 ·by_cases h1:bt s i=45
  ·have hlt:i<s.size:=dg (by omega)
   have e1:cU s i=gm s (i+1):=by simp[cU,h1]
   have e2:i+aR s i=i+1+c9 s (i+1):=by simp[aR,h1];omega
   have e3:vP s i=rp s (i+1):=by simp[vP,h1]
   rw[e1,e2,e3]
   exact Aw s b i w hB hr h1 _ _ _ _ _ _ _ _ _ _ (fun W hW=>El s b (i+1) W ⟨hs,by omega⟩ hW)
  ·have e3:vP s i=⟨3,0,0,0,0,0,0,0⟩:=by simp[vP,h,h1]
   by_cases h2:bt s i=46
   ·have e1:cU s i=true:=by simp[cU,h2]
    have e2:aR s i=1:=by simp[aR,h2]
    rw[e1,e2,e3]
    exact Dw s b i w hB hr h2
   ·have e1:cU s i=false:=by simp[cU,h,h1,h2]
    have e2:aR s i=0:=by simp[aR,h,h1,h2]
    rw[e1,e2,e3]
    exact DP s b i w hB hr h h1 h2
end Go.Proofs.YthlhbjnkohinmabGreat
