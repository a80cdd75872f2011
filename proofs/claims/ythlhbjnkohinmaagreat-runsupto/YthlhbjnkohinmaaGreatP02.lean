import Derived.Test.YthlhbjnkohinmaaGreatP01
namespace Go.Proofs.YthlhbjnkohinmaaGreat
set_option maxRecDepth 100000
set_option maxHeartbeats 8000000
open Go.RowKit
structure Cd where
 k:Int
 c:Int
 g:Int
 a1:Int
 a2:Int
 b1:Int
 b2:Int
structure Ac where
 k:Int
 c:Int
 a1:Int
 a2:Int
 a3:Int
 b1:Int
 b2:Int
 b3:Int
abbrev Cd.arr (x:Cd):Array Value:=#[.int .i64 x.k,.int .i64 x.c,.int .u8 x.g,.int .i64 x.a1,.int .i64 x.a2,.int .i64 x.b1,.int .i64 x.b2]
abbrev Ac.arr (x:Ac):Array Value:=#[.int .i64 x.k,.int .i64 x.c,.int .i64 x.a1,.int .i64 x.a2,.int .i64 x.a3,.int .i64 x.b1,.int .i64 x.b2,.int .i64 x.b3]
theorem Di (s:ByteArray)(b i:Nat)(w:World)(hB:s.size≤400∧i≤400)(hr:Rd w b s i)(h:bt s i=33)(x0 x1 x2 x3 x4 x5 x6:Int)(ok:Bool)(j:Nat)(hp:∀ W,Rd W b s (i+1)→Calls Tryz.prog 147 #[.pointer (some ⟨b,0,none⟩),.int .i64 2] W (RP W b s (.tuple #[.agg #[.int .i64 x0,.int .i64 x1,.int .u8 x2,.int .i64 x3,.int .i64 x4,.int .i64 x5,.int .i64 x6],.bool ok]) j)):Calls Tryz.prog 141 #[.pointer (some ⟨b,0,none⟩)] w (RP w b s (.tuple #[.agg #[.int .i64 x0,.int .i64 x1,.int .u8 x2,.int .i64 x3,.int .i64 x4,.int .i64 x5,.int .i64 x6],.bool ok]) (j)):=by
 have hl:=hr.lt
 have hne:w.heap.size≠b:=by omega
 have hs:=hB.1
 have H:Hid (bt s i=33):=h
 clear h
 go_enter Tryz.func141,Tryz.ntmps141
 go_wp2_with fail
 go_at_call 123
 refine (eP s b i _ hB (hr.alloc _) 33 H.out).mono ?_
 rintro e w1 ⟨rfl,hr1,hg1⟩
 obtain⟨⟨hc1,hf1⟩,hn1,hzw1,hyw1,hxw1,hk1⟩:=nx hr1 hg1 (by omega)
 go_wp2_with fail
 go_at_call 147
 refine (hp _ (by with_reducible repeat' (first|assumption|refine Rd.alloc ?_ _|refine Rd.drewN ?_ _|refine Rd.step ?_|refine Rd.other ?_ ?_ _|(simp;omega)))).mono ?_
 rintro e w2 ⟨rfl,hr2,hg2⟩
 obtain⟨hc2,hf2⟩:=cM hg2
 have hn2:w2.heap.size≠b:=by have:=hr2.lt;omega
 have hzw2:w.heap.size<w2.heap.size:=by have:=hg2.size;(try simp at this);omega
 have hyw2:=Nat.le_of_lt hzw2
 have hxw2:=Nat.ne_of_lt hzw2
 have hk2:=af ((hg2.block w.heap.size (by (try simp);omega) (by simp;omega)).trans hk1.out)
 go_wp2
 refine bodyPost_ret (v:=.tuple #[.agg #[.int .i64 x0,.int .i64 x1,.int .u8 x2,.int .i64 x3,.int .i64 x4,.int .i64 x5,.int .i64 x6],.bool ok]) (aO Tryz.results141 rfl (bk 6 (bk 5 (bk 4 (bk 3 (bk 2 (bk 1 (bk 0 hk2.out))))))) Tryz.underlying206 rfl (by kernel_rfl) rfl) rfl ⟨rfl,?_,?_⟩
 ·with_reducible repeat' (first|assumption|refine Rd.alloc ?_ _|refine Rd.drewN ?_ _|refine Rd.step ?_|refine Rd.other ?_ ?_ _|(simp;omega))
 ·with_reducible repeat' (first|assumption|exact ag _ _|refine aj ?_ ?_ _|refine ab ?_ _|refine al ?_ _|refine ae ?_ (by assumption)|(right;simp;done)|(right;simp;omega)|(left;rfl))
theorem C8 (s:ByteArray)(b i:Nat)(w:World)(hB:s.size≤400∧i≤400)(hr:Rd w b s i)(h:¬bt s i=33)(h1:aR (bt s i)=true)(x0 x1 x2 x3 x4 x5 x6:Int)(ok:Bool)(j:Nat)(hp:∀ W,Rd W b s (i)→Calls Tryz.prog 147 #[.pointer (some ⟨b,0,none⟩),.int .i64 1] W (RP W b s (.tuple #[.agg #[.int .i64 x0,.int .i64 x1,.int .u8 x2,.int .i64 x3,.int .i64 x4,.int .i64 x5,.int .i64 x6],.bool ok]) j)):Calls Tryz.prog 141 #[.pointer (some ⟨b,0,none⟩)] w (RP w b s (.tuple #[.agg #[.int .i64 x0,.int .i64 x1,.int .u8 x2,.int .i64 x3,.int .i64 x4,.int .i64 x5,.int .i64 x6],.bool ok]) (j)):=by
 have hl:=hr.lt
 have hne:w.heap.size≠b:=by omega
 have hs:=hB.1
 have H:Hid (¬bt s i=33):=h
 clear h
 have hb:=bX s i
 go_enter Tryz.func141,Tryz.ntmps141
 go_wp2_with fail
 go_at_call 123
 refine (dl s b i _ hB (hr.alloc _) 33 H.out).mono ?_
 rintro e w1 ⟨rfl,hr1,hg1⟩
 obtain⟨⟨hc1,hf1⟩,hn1,hzw1,hyw1,hxw1,hk1⟩:=nx hr1 hg1 (by omega)
 go_wp2_with fail
 go_at_call 140
 refine (eO s b i _ hs hr1).mono ?_
 rintro e w' ⟨rfl,n,rfl⟩
 go_wp2_with fail
 go_at_call 82
 refine (ml _ _ hb.1 hb.2 h1).mono ?_
 rintro e w' ⟨rfl,rfl⟩
 go_wp2_with fail
 go_at_call 147
 refine (hp _ (by with_reducible repeat' (first|assumption|refine Rd.alloc ?_ _|refine Rd.drewN ?_ _|refine Rd.step ?_|refine Rd.other ?_ ?_ _|(simp;omega)))).mono ?_
 rintro e w2 ⟨rfl,hr2,hg2⟩
 replace hg2:=cF hg2
 obtain⟨hc2,hf2⟩:=cM hg2
 have hn2:w2.heap.size≠b:=by have:=hr2.lt;omega
 have hzw2:w.heap.size<w2.heap.size:=by have:=hg2.size;(try simp at this);omega
 have hyw2:=Nat.le_of_lt hzw2
 have hxw2:=Nat.ne_of_lt hzw2
 have hk2:=af ((hg2.block w.heap.size (by (try simp);omega) (by simp;omega)).trans hk1.out)
 go_wp2
 refine bodyPost_ret (v:=.tuple #[.agg #[.int .i64 x0,.int .i64 x1,.int .u8 x2,.int .i64 x3,.int .i64 x4,.int .i64 x5,.int .i64 x6],.bool ok]) (aO Tryz.results141 rfl (bk 6 (bk 5 (bk 4 (bk 3 (bk 2 (bk 1 (bk 0 hk2.out))))))) Tryz.underlying206 rfl (by kernel_rfl) rfl) rfl ⟨rfl,?_,?_⟩
 ·with_reducible repeat' (first|assumption|refine Rd.alloc ?_ _|refine Rd.drewN ?_ _|refine Rd.step ?_|refine Rd.other ?_ ?_ _|(simp;omega))
 ·with_reducible repeat' (first|assumption|exact ag _ _|refine aj ?_ ?_ _|refine ab ?_ _|refine al ?_ _|refine ae ?_ (by assumption)|(right;simp;done)|(right;simp;omega)|(left;rfl))
theorem zq (s:ByteArray)(b i:Nat)(w:World)(hB:s.size≤400∧i≤400)(hr:Rd w b s i)(h:¬bt s i=33)(h1:aR (bt s i)=false)(x0 x1 x2 x3 x4 x5 x6:Int)(ok:Bool)(j:Nat)(hp:∀ W,Rd W b s (i)→Calls Tryz.prog 148 #[.pointer (some ⟨b,0,none⟩)] W (RP W b s (.tuple #[.agg #[.int .i64 x0,.int .i64 x1,.int .u8 x2,.int .i64 x3,.int .i64 x4,.int .i64 x5,.int .i64 x6],.bool ok]) j)):Calls Tryz.prog 141 #[.pointer (some ⟨b,0,none⟩)] w (RP w b s (.tuple #[.agg #[.int .i64 x0,.int .i64 x1,.int .u8 x2,.int .i64 x3,.int .i64 x4,.int .i64 x5,.int .i64 x6],.bool ok]) (j)):=by
 have hl:=hr.lt
 have hne:w.heap.size≠b:=by omega
 have hs:=hB.1
 have H:Hid (¬bt s i=33):=h
 clear h
 have hb:=bX s i
 go_enter Tryz.func141,Tryz.ntmps141
 go_wp2_with fail
 go_at_call 123
 refine (dl s b i _ hB (hr.alloc _) 33 H.out).mono ?_
 rintro e w1 ⟨rfl,hr1,hg1⟩
 obtain⟨⟨hc1,hf1⟩,hn1,hzw1,hyw1,hxw1,hk1⟩:=nx hr1 hg1 (by omega)
 go_wp2_with fail
 go_at_call 140
 refine (eO s b i _ hs hr1).mono ?_
 rintro e w' ⟨rfl,n,rfl⟩
 go_wp2_with fail
 go_at_call 82
 refine (oh _ _ hb.1 hb.2 h1).mono ?_
 rintro e w' ⟨rfl,rfl⟩
 go_wp2_with fail
 go_at_call 148
 refine (hp _ (by with_reducible repeat' (first|assumption|refine Rd.alloc ?_ _|refine Rd.drewN ?_ _|refine Rd.step ?_|refine Rd.other ?_ ?_ _|(simp;omega)))).mono ?_
 rintro e w2 ⟨rfl,hr2,hg2⟩
 replace hg2:=cF hg2
 obtain⟨hc2,hf2⟩:=cM hg2
 have hn2:w2.heap.size≠b:=by have:=hr2.lt;omega
 have hzw2:w.heap.size<w2.heap.size:=by have:=hg2.size;(try simp at this);omega
 have hyw2:=Nat.le_of_lt hzw2
 have hxw2:=Nat.ne_of_lt hzw2
 have hk2:=af ((hg2.block w.heap.size (by (try simp);omega) (by simp;omega)).trans hk1.out)
 go_wp2
 refine bodyPost_ret (v:=.tuple #[.agg #[.int .i64 x0,.int .i64 x1,.int .u8 x2,.int .i64 x3,.int .i64 x4,.int .i64 x5,.int .i64 x6],.bool ok]) (aO Tryz.results141 rfl (bk 6 (bk 5 (bk 4 (bk 3 (bk 2 (bk 1 (bk 0 hk2.out))))))) Tryz.underlying206 rfl (by kernel_rfl) rfl) rfl ⟨rfl,?_,?_⟩
 ·with_reducible repeat' (first|assumption|refine Rd.alloc ?_ _|refine Rd.drewN ?_ _|refine Rd.step ?_|refine Rd.other ?_ ?_ _|(simp;omega))
 ·with_reducible repeat' (first|assumption|exact ag _ _|refine aj ?_ ?_ _|refine ab ?_ _|refine al ?_ _|refine ae ?_ (by assumption)|(right;simp;done)|(right;simp;omega)|(left;rfl))
theorem CW (s:ByteArray)(b i:Nat)(w:World)(hB:s.size≤400∧i≤400)(hr:Rd w b s i)(h:bt s i=43)(x0 x1 x2 x3 x4 x5 x6 x7:Int)(ok:Bool)(j:Nat)(hp:∀ W,Rd W b s (i+1)→Calls Tryz.prog 149 #[.pointer (some ⟨b,0,none⟩)] W (RP W b s (.tuple #[.agg #[.int .i64 x0,.int .i64 x1,.int .i64 x2,.int .i64 x3,.int .i64 x4,.int .i64 x5,.int .i64 x6,.int .i64 x7],.bool ok]) j)):Calls Tryz.prog 142 #[.pointer (some ⟨b,0,none⟩)] w (RP w b s (.tuple #[.agg #[.int .i64 x0,.int .i64 x1,.int .i64 x2,.int .i64 x3,.int .i64 x4,.int .i64 x5,.int .i64 x6,.int .i64 x7],.bool ok]) (j)):=by
 have hl:=hr.lt
 have hne:w.heap.size≠b:=by omega
 have hs:=hB.1
 have H:Hid (bt s i=43):=h
 clear h
 go_enter Tryz.func142,Tryz.ntmps142
 go_wp2_with fail
 go_at_call 123
 refine (eP s b i _ hB (hr.alloc _) 43 H.out).mono ?_
 rintro e w1 ⟨rfl,hr1,hg1⟩
 obtain⟨⟨hc1,hf1⟩,hn1,hzw1,hyw1,hxw1,hk1⟩:=nx hr1 hg1 (by omega)
 go_wp2_with fail
 go_at_call 149
 refine (hp _ (by with_reducible repeat' (first|assumption|refine Rd.alloc ?_ _|refine Rd.drewN ?_ _|refine Rd.step ?_|refine Rd.other ?_ ?_ _|(simp;omega)))).mono ?_
 rintro e w2 ⟨rfl,hr2,hg2⟩
 obtain⟨hc2,hf2⟩:=cM hg2
 have hn2:w2.heap.size≠b:=by have:=hr2.lt;omega
 have hzw2:w.heap.size<w2.heap.size:=by have:=hg2.size;(try simp at this);omega
 have hyw2:=Nat.le_of_lt hzw2
 have hxw2:=Nat.ne_of_lt hzw2
 have hk2:=af ((hg2.block w.heap.size (by (try simp);omega) (by simp;omega)).trans hk1.out)
 go_wp2
 refine bodyPost_ret (v:=.tuple #[.agg #[.int .i64 x0,.int .i64 x1,.int .i64 x2,.int .i64 x3,.int .i64 x4,.int .i64 x5,.int .i64 x6,.int .i64 x7],.bool ok]) (aO Tryz.results142 rfl (bk 7 (bk 6 (bk 5 (bk 4 (bk 3 (bk 2 (bk 1 (bk 0 hk2.out)))))))) Tryz.underlying219 rfl (by kernel_rfl) rfl) rfl ⟨rfl,?_,?_⟩
 ·with_reducible repeat' (first|assumption|refine Rd.alloc ?_ _|refine Rd.drewN ?_ _|refine Rd.step ?_|refine Rd.other ?_ ?_ _|(simp;omega))
 ·with_reducible repeat' (first|assumption|exact ag _ _|refine aj ?_ ?_ _|refine ab ?_ _|refine al ?_ _|refine ae ?_ (by assumption)|(right;simp;done)|(right;simp;omega)|(left;rfl))
theorem zv (s:ByteArray)(b i:Nat)(w:World)(hB:s.size≤400∧i≤400)(hr:Rd w b s i)(h:bt s i=45)(x0 x1 x2 x3 x4 x5 x6 x7:Int)(ok:Bool)(j:Nat)(hp:∀ W,Rd W b s (i+1)→Calls Tryz.prog 150 #[.pointer (some ⟨b,0,none⟩)] W (RP W b s (.tuple #[.agg #[.int .i64 x0,.int .i64 x1,.int .i64 x2,.int .i64 x3,.int .i64 x4,.int .i64 x5,.int .i64 x6,.int .i64 x7],.bool ok]) j)):Calls Tryz.prog 142 #[.pointer (some ⟨b,0,none⟩)] w (RP w b s (.tuple #[.agg #[.int .i64 x0,.int .i64 x1,.int .i64 x2,.int .i64 x3,.int .i64 x4,.int .i64 x5,.int .i64 x6,.int .i64 x7],.bool ok]) (j)):=by
 have hl:=hr.lt
 have hne:w.heap.size≠b:=by omega
 have hs:=hB.1
 have H:Hid (bt s i=45):=h
 have H1:Hid (¬bt s i=43):=by intro hx;omega
 clear h
 go_enter Tryz.func142,Tryz.ntmps142
 go_wp2_with fail
 go_at_call 123
 refine (dl s b i _ hB (hr.alloc _) 43 H1.out).mono ?_
 rintro e w1 ⟨rfl,hr1,hg1⟩
 obtain⟨⟨hc1,hf1⟩,hn1,hzw1,hyw1,hxw1,hk1⟩:=nx hr1 hg1 (by omega)
 go_wp2_with fail
 go_at_call 123
 refine (eP s b i _ hB (by with_reducible repeat' (first|assumption|refine Rd.alloc ?_ _|refine Rd.drewN ?_ _|refine Rd.step ?_|refine Rd.other ?_ ?_ _|(simp;omega))) 45 H.out).mono ?_
 rintro e w2 ⟨rfl,hr2,hg2⟩
 obtain⟨hc2,hf2⟩:=cM hg2
 have hn2:w2.heap.size≠b:=by have:=hr2.lt;omega
 have hzw2:w.heap.size<w2.heap.size:=by have:=hg2.size;(try simp at this);omega
 have hyw2:=Nat.le_of_lt hzw2
 have hxw2:=Nat.ne_of_lt hzw2
 have hk2:=af ((hg2.block w.heap.size (by (try simp);omega) (by simp;omega)).trans hk1.out)
 go_wp2_with fail
 go_at_call 150
 refine (hp _ (by with_reducible repeat' (first|assumption|refine Rd.alloc ?_ _|refine Rd.drewN ?_ _|refine Rd.step ?_|refine Rd.other ?_ ?_ _|(simp;omega)))).mono ?_
 rintro e w3 ⟨rfl,hr3,hg3⟩
 obtain⟨hc3,hf3⟩:=cM hg3
 have hn3:w3.heap.size≠b:=by have:=hr3.lt;omega
 have hzw3:w.heap.size<w3.heap.size:=by have:=hg3.size;(try simp at this);omega
 have hyw3:=Nat.le_of_lt hzw3
 have hxw3:=Nat.ne_of_lt hzw3
 have hk3:=af ((hg3.block w.heap.size (by (try simp);omega) (by simp;omega)).trans hk2.out)
 go_wp2
 refine bodyPost_ret (v:=.tuple #[.agg #[.int .i64 x0,.int .i64 x1,.int .i64 x2,.int .i64 x3,.int .i64 x4,.int .i64 x5,.int .i64 x6,.int .i64 x7],.bool ok]) (aO Tryz.results142 rfl (bk 7 (bk 6 (bk 5 (bk 4 (bk 3 (bk 2 (bk 1 (bk 0 hk3.out)))))))) Tryz.underlying219 rfl (by kernel_rfl) rfl) rfl ⟨rfl,?_,?_⟩
 ·with_reducible repeat' (first|assumption|refine Rd.alloc ?_ _|refine Rd.drewN ?_ _|refine Rd.step ?_|refine Rd.other ?_ ?_ _|(simp;omega))
 ·with_reducible repeat' (first|assumption|exact ag _ _|refine aj ?_ ?_ _|refine ab ?_ _|refine al ?_ _|refine ae ?_ (by assumption)|(right;simp;done)|(right;simp;omega)|(left;rfl))
theorem DQ (s:ByteArray)(b i:Nat)(w:World)(hB:s.size≤400∧i≤400)(hr:Rd w b s i)(h:bt s i=46):Calls Tryz.prog 142 #[.pointer (some ⟨b,0,none⟩)] w (RP w b s (.tuple #[.agg #[.int .i64 3,.int .i64 0,.int .i64 0,.int .i64 0,.int .i64 0,.int .i64 0,.int .i64 0,.int .i64 0],.bool true]) (i+1)):=by
 have hl:=hr.lt
 have hne:w.heap.size≠b:=by omega
 have hs:=hB.1
 have H:Hid (bt s i=46):=h
 have H1:Hid (¬bt s i=43):=by intro hx;omega
 have H2:Hid (¬bt s i=45):=by intro hx;omega
 clear h
 go_enter Tryz.func142,Tryz.ntmps142
 go_wp2_with fail
 go_at_call 123
 refine (dl s b i _ hB (hr.alloc _) 43 H1.out).mono ?_
 rintro e w1 ⟨rfl,hr1,hg1⟩
 obtain⟨⟨hc1,hf1⟩,hn1,hzw1,hyw1,hxw1,hk1⟩:=nx hr1 hg1 (by omega)
 go_wp2_with fail
 go_at_call 123
 refine (dl s b i _ hB (by with_reducible repeat' (first|assumption|refine Rd.alloc ?_ _|refine Rd.drewN ?_ _|refine Rd.step ?_|refine Rd.other ?_ ?_ _|(simp;omega))) 45 H2.out).mono ?_
 rintro e w2 ⟨rfl,hr2,hg2⟩
 obtain⟨hc2,hf2⟩:=cM hg2
 have hn2:w2.heap.size≠b:=by have:=hr2.lt;omega
 have hzw2:w.heap.size<w2.heap.size:=by have:=hg2.size;(try simp at this);omega
 have hyw2:=Nat.le_of_lt hzw2
 have hxw2:=Nat.ne_of_lt hzw2
 have hk2:=af ((hg2.block w.heap.size (by (try simp);omega) (by simp;omega)).trans hk1.out)
 go_wp2_with fail
 go_at_call 123
 refine (eP s b i _ hB (by with_reducible repeat' (first|assumption|refine Rd.alloc ?_ _|refine Rd.drewN ?_ _|refine Rd.step ?_|refine Rd.other ?_ ?_ _|(simp;omega))) 46 H.out).mono ?_
 rintro e w3 ⟨rfl,hr3,hg3⟩
 obtain⟨hc3,hf3⟩:=cM hg3
 have hn3:w3.heap.size≠b:=by have:=hr3.lt;omega
 have hzw3:w.heap.size<w3.heap.size:=by have:=hg3.size;(try simp at this);omega
 have hyw3:=Nat.le_of_lt hzw3
 have hxw3:=Nat.ne_of_lt hzw3
 have hk3:=af ((hg3.block w.heap.size (by (try simp);omega) (by simp;omega)).trans hk2.out)
 go_wp2
 refine bodyPost_ret (v:=.tuple #[.agg #[.int .i64 3,.int .i64 0,.int .i64 0,.int .i64 0,.int .i64 0,.int .i64 0,.int .i64 0,.int .i64 0],.bool true]) (aO Tryz.results142 rfl (bk 7 (bk 6 (bk 5 (bk 4 (bk 3 (bk 2 (bk 1 (bk 0 hk3.out)))))))) Tryz.underlying219 rfl (by kernel_rfl) rfl) rfl ⟨rfl,?_,?_⟩
 ·with_reducible repeat' (first|assumption|refine Rd.alloc ?_ _|refine Rd.drewN ?_ _|refine Rd.step ?_|refine Rd.other ?_ ?_ _|(simp;omega))
 ·with_reducible repeat' (first|assumption|exact ag _ _|refine aj ?_ ?_ _|refine ab ?_ _|refine al ?_ _|refine ae ?_ (by assumption)|(right;simp;done)|(right;simp;omega)|(left;rfl))
theorem CP (s:ByteArray)(b i:Nat)(w:World)(hB:s.size≤400∧i≤400)(hr:Rd w b s i)(h0:¬bt s i=43)(h1:¬bt s i=45)(h2:¬bt s i=46):Calls Tryz.prog 142 #[.pointer (some ⟨b,0,none⟩)] w (RP w b s (.tuple #[.agg #[.int .i64 3,.int .i64 0,.int .i64 0,.int .i64 0,.int .i64 0,.int .i64 0,.int .i64 0,.int .i64 0],.bool false]) (i)):=by
 have hl:=hr.lt
 have hne:w.heap.size≠b:=by omega
 have hs:=hB.1
 have H:Hid (¬bt s i=46):=h2
 have H1:Hid (¬bt s i=43):=h0
 have H2:Hid (¬bt s i=45):=h1
 clear h0 h1 h2
 go_enter Tryz.func142,Tryz.ntmps142
 go_wp2_with fail
 go_at_call 123
 refine (dl s b i _ hB (hr.alloc _) 43 H1.out).mono ?_
 rintro e w1 ⟨rfl,hr1,hg1⟩
 obtain⟨⟨hc1,hf1⟩,hn1,hzw1,hyw1,hxw1,hk1⟩:=nx hr1 hg1 (by omega)
 go_wp2_with fail
 go_at_call 123
 refine (dl s b i _ hB (by with_reducible repeat' (first|assumption|refine Rd.alloc ?_ _|refine Rd.drewN ?_ _|refine Rd.step ?_|refine Rd.other ?_ ?_ _|(simp;omega))) 45 H2.out).mono ?_
 rintro e w2 ⟨rfl,hr2,hg2⟩
 obtain⟨hc2,hf2⟩:=cM hg2
 have hn2:w2.heap.size≠b:=by have:=hr2.lt;omega
 have hzw2:w.heap.size<w2.heap.size:=by have:=hg2.size;(try simp at this);omega
 have hyw2:=Nat.le_of_lt hzw2
 have hxw2:=Nat.ne_of_lt hzw2
 have hk2:=af ((hg2.block w.heap.size (by (try simp);omega) (by simp;omega)).trans hk1.out)
 go_wp2_with fail
 go_at_call 123
 refine (dl s b i _ hB (by with_reducible repeat' (first|assumption|refine Rd.alloc ?_ _|refine Rd.drewN ?_ _|refine Rd.step ?_|refine Rd.other ?_ ?_ _|(simp;omega))) 46 H.out).mono ?_
 rintro e w3 ⟨rfl,hr3,hg3⟩
 obtain⟨hc3,hf3⟩:=cM hg3
 have hn3:w3.heap.size≠b:=by have:=hr3.lt;omega
 have hzw3:w.heap.size<w3.heap.size:=by have:=hg3.size;(try simp at this);omega
 have hyw3:=Nat.le_of_lt hzw3
 have hxw3:=Nat.ne_of_lt hzw3
 have hk3:=af ((hg3.block w.heap.size (by (try simp);omega) (by simp;omega)).trans hk2.out)
 go_wp2
 refine bodyPost_ret (v:=.tuple #[.agg #[.int .i64 3,.int .i64 0,.int .i64 0,.int .i64 0,.int .i64 0,.int .i64 0,.int .i64 0,.int .i64 0],.bool false]) (aO Tryz.results142 rfl (bk 7 (bk 6 (bk 5 (bk 4 (bk 3 (bk 2 (bk 1 (bk 0 hk3.out)))))))) Tryz.underlying219 rfl (by kernel_rfl) rfl) rfl ⟨rfl,?_,?_⟩
 ·with_reducible repeat' (first|assumption|refine Rd.alloc ?_ _|refine Rd.drewN ?_ _|refine Rd.step ?_|refine Rd.other ?_ ?_ _|(simp;omega))
 ·with_reducible repeat' (first|assumption|exact ag _ _|refine aj ?_ ?_ _|refine ab ?_ _|refine al ?_ _|refine ae ?_ (by assumption)|(right;simp;done)|(right;simp;omega)|(left;rfl))
def bz (s:ByteArray)(i:Nat):Nat:=if aR (bt s i) then (if c9 (bt s (i+1)) then (if c9 (bt s (i+2)) then 3 else 2) else 1) else 0
def bT (s:ByteArray)(i:Nat):Nat:=if be (bt s i) then (if gE (bt s (i+1)) then (if be (bt s (i+2)) then 3 else 2) else 1) else 0
def aH (s:ByteArray)(i:Nat):Nat:=if bt s i=33 then 1+bz s (i+1) else if aR (bt s i) then bz s i else bT s i
def b7 (s:ByteArray)(i:Nat):Bool:=if bt s i=33 then bz s (i+1)==3 else if aR (bt s i) then bz s i==3 else bT s i==3
def l4 (kind:Int)(s:ByteArray)(i:Nat):Cd:=⟨kind,bt s i - 97,0,dy (bt s (i+1)),dE (bt s (i+1)),dy (bt s (i+2)),dE (bt s (i+2))⟩
def rp (s:ByteArray)(i:Nat):Cd:=⟨3,0,bt s (i+1),dy (bt s i),dE (bt s i),dy (bt s (i+2)),dE (bt s (i+2))⟩
def dj (s:ByteArray)(i:Nat):Cd:=if bt s i=33 then l4 2 s (i+1) else if aR (bt s i) then l4 1 s i else rp s i
def cR (s:ByteArray)(i:Nat):Nat:=if aR (bt s i) then (if be (bt s (i+1)) then (if be (bt s (db s (i+1))) then db s (db s (i+1)) - i else db s (i+1) - i) else 1) else 0
def fJ (s:ByteArray)(i:Nat):Bool:=aR (bt s i)&&be (bt s (i+1))&&be (bt s (db s (i+1)))
def da (s:ByteArray)(i:Nat):Nat:=if aR (bt s i) then (if be (bt s (i+1)) then db s (i+1) - i else 1) else 0
def gm (s:ByteArray)(i:Nat):Bool:=aR (bt s i)&&be (bt s (i+1))
def aS (s:ByteArray)(i:Nat):Nat:=if bt s i=43 then 1+cR s (i+1) else if bt s i=45 then 1+da s (i+1) else if bt s i=46 then 1 else 0
def cT (s:ByteArray)(i:Nat):Bool:=if bt s i=43 then fJ s (i+1) else if bt s i=45 then gm s (i+1) else bt s i==46
def wK (s:ByteArray)(i:Nat):Ac:=⟨1,bt s i - 97,dy (bt s (i+1)),dE (bt s (i+1)),hJ (bt s (i+1+1)),dy (bt s (db s (i+1))),dE (bt s (db s (i+1))),hJ (bt s (db s (i+1)+1))⟩
def wo (s:ByteArray)(i:Nat):Ac:=⟨2,bt s i - 97,dy (bt s (i+1)),dE (bt s (i+1)),hJ (bt s (i+1+1)),0,0,0⟩
def eh (s:ByteArray)(i:Nat):Ac:=if bt s i=43 then wK s (i+1) else if bt s i=45 then wo s (i+1) else ⟨3,0,0,0,0,0,0,0⟩
theorem eB (s:ByteArray)(i:Nat):i<db s i:=by unfold db;split <;> omega
def Fu:Cd:=⟨0,0,0,0,0,0,0⟩
def F2:Ac:=⟨0,0,0,0,0,0,0,0⟩
def mx (kind:Int)(s:ByteArray)(i:Nat):Cd:=if aR (bt s i) then (if c9 (bt s (i+1)) then (if c9 (bt s (i+2)) then l4 kind s i else ⟨kind,bt s i - 97,0,dy (bt s (i+1)),dE (bt s (i+1)),0,0⟩) else Fu) else Fu
def oi (s:ByteArray)(i:Nat):Cd:=if be (bt s i) then (if gE (bt s (i+1)) then (if be (bt s (i+2)) then rp s i else ⟨3,0,bt s (i+1),dy (bt s i),dE (bt s i),0,0⟩) else Fu) else Fu
def wy (s:ByteArray)(i:Nat):Cd:=if bt s i=33 then mx 2 s (i+1) else if aR (bt s i) then mx 1 s i else oi s i
def oW (s:ByteArray)(i:Nat):Ac:=if aR (bt s i) then (if be (bt s (i+1)) then (if be (bt s (db s (i+1))) then wK s i else ⟨1,bt s i - 97,dy (bt s (i+1)),dE (bt s (i+1)),hJ (bt s (i+1+1)),0,0,0⟩) else F2) else F2
def rk (s:ByteArray)(i:Nat):Ac:=if aR (bt s i) then (if be (bt s (i+1)) then wo s i else ⟨2,bt s i - 97,0,0,0,0,0,0⟩) else F2
def uC (s:ByteArray)(i:Nat):Ac:=if bt s i=43 then oW s (i+1) else if bt s i=45 then rk s (i+1) else ⟨3,0,0,0,0,0,0,0⟩
theorem yN {kind:Int}{s:ByteArray}{i:Nat}(h:bz s i=3):mx kind s i=l4 kind s i:=by
 unfold bz at h;unfold mx
 split at h
 ·split at h
  ·split at h
   ·simp[*]
   ·omega
  ·omega
 ·omega
theorem El {s:ByteArray}{i:Nat}(h:bT s i=3):oi s i=rp s i:=by
 unfold bT at h;unfold oi
 split at h
 ·split at h
  ·split at h
   ·simp[*]
   ·omega
  ·omega
 ·omega
theorem F0 {s:ByteArray}{i:Nat}(h:b7 s i=true):wy s i=dj s i:=by
 unfold b7 at h;unfold wy dj
 by_cases h1:bt s i=33
 ·simp only[h1,if_true] at h ⊢;exact yN (by simpa using h)
 ·by_cases h2:aR (bt s i)=true
  ·simp only[h1,h2,if_false,if_true] at h ⊢;exact yN (by simpa using h)
  ·simp only[h1,h2,if_false] at h ⊢;exact El (by simpa using h)
theorem FK {s:ByteArray}{i:Nat}(h:cT s i=true):uC s i=eh s i:=by
 unfold cT at h;unfold uC eh
 by_cases h1:bt s i=43
 ·simp only[h1,if_true] at h ⊢;simp[fJ] at h;simp[oW,h]
 ·by_cases h2:bt s i=45
  ·simp only[h2,if_true] at h ⊢;simp[gm] at h;simp[rk,h]
  ·simp only[h1,h2,if_false]
theorem yE (s:ByteArray)(b i:Nat)(w:World)(hB:s.size≤400∧i≤400)(hr:Rd w b s i)(kind:Int):Calls Tryz.prog 147 #[.pointer (some ⟨b,0,none⟩),.int .i64 kind] w (RP w b s (.tuple #[.agg (mx kind s i).arr,.bool (bz s i==3)]) (i+bz s i)):=by
 by_cases h0:aR (bt s i)=true
 ·by_cases h1:c9 (bt s (i+1))=true
  ·by_cases h2:c9 (bt s (i+2))=true
   ·have e:bz s i=3:=by simp[bz,h0,h1,h2]
    have e2:mx kind s i=l4 kind s i:=by simp[mx,h0,h1,h2]
    rw[e,e2];exact tZ s b i w hB hr kind h0 h1 h2
   ·have h2:c9 (bt s (i+2))=false:=by simpa using h2
    have e:bz s i=2:=by simp[bz,h0,h1,h2]
    have e2:mx kind s i=⟨kind,bt s i - 97,0,dy (bt s (i+1)),dE (bt s (i+1)),0,0⟩:=by simp[mx,h0,h1,h2]
    rw[e,e2];exact uH s b i w hB hr kind h0 h1 h2
  ·have h1:c9 (bt s (i+1))=false:=by simpa using h1
   have e:bz s i=1:=by simp[bz,h0,h1]
   have e2:mx kind s i=Fu:=by simp[mx,h0,h1]
   rw[e,e2];exact vN s b i w hB hr kind h0 h1
 ·have h0:aR (bt s i)=false:=by simpa using h0
  have e:bz s i=0:=by simp[bz,h0]
  have e2:mx kind s i=Fu:=by simp[mx,h0]
  rw[e,e2];exact uU s b i w hB hr kind h0
theorem EO (s:ByteArray)(b i:Nat)(w:World)(hB:s.size≤400∧i≤400)(hr:Rd w b s i):Calls Tryz.prog 148 #[.pointer (some ⟨b,0,none⟩)] w (RP w b s (.tuple #[.agg (oi s i).arr,.bool (bT s i==3)]) (i+bT s i)):=by
 by_cases h0:be (bt s i)=true
 ·by_cases h1:gE (bt s (i+1))=true
  ·by_cases h2:be (bt s (i+2))=true
   ·have e:bT s i=3:=by simp[bT,h0,h1,h2]
    have e2:oi s i=rp s i:=by simp[oi,h0,h1,h2]
    rw[e,e2];exact Df s b i w hB hr h0 h1 h2
   ·have h2:be (bt s (i+2))=false:=by simpa using h2
    have e:bT s i=2:=by simp[bT,h0,h1,h2]
    have e2:oi s i=⟨3,0,bt s (i+1),dy (bt s i),dE (bt s i),0,0⟩:=by simp[oi,h0,h1,h2]
    rw[e,e2];exact C1 s b i w hB hr h0 h1 h2
  ·have h1:gE (bt s (i+1))=false:=by simpa using h1
   have e:bT s i=1:=by simp[bT,h0,h1]
   have e2:oi s i=Fu:=by simp[oi,h0,h1]
   rw[e,e2];exact Dh s b i w hB hr h0 h1
 ·have h0:be (bt s i)=false:=by simpa using h0
  have e:bT s i=0:=by simp[bT,h0]
  have e2:oi s i=Fu:=by simp[oi,h0]
  rw[e,e2];exact B1 s b i w hB hr h0
theorem Ep (s:ByteArray)(b i:Nat)(w:World)(hB:s.size≤400∧i≤400)(hr:Rd w b s i):Calls Tryz.prog 149 #[.pointer (some ⟨b,0,none⟩)] w (RP w b s (.tuple #[.agg (oW s i).arr,.bool (fJ s i)]) (i+cR s i)):=by
 by_cases h0:aR (bt s i)=true
 ·by_cases h1:be (bt s (i+1))=true
  ·have hj1:i+1<db s (i+1):=eB _ _
   by_cases h2:be (bt s (db s (i+1)))=true
   ·have hj2:db s (i+1)<db s (db s (i+1)):=eB _ _
    have e:i+cR s i=db s (db s (i+1)):=by simp[cR,h0,h1,h2];omega
    have e2:oW s i=wK s i:=by simp[oW,h0,h1,h2]
    have e3:fJ s i=true:=by simp[fJ,h0,h1,h2]
    rw[e,e2,e3];exact DU s b i w hB hr h0 h1 h2
   ·have h2:be (bt s (db s (i+1)))=false:=by simpa using h2
    have e:i+cR s i=db s (i+1):=by simp[cR,h0,h1,h2];omega
    have e2:oW s i=⟨1,bt s i - 97,dy (bt s (i+1)),dE (bt s (i+1)),hJ (bt s (i+1+1)),0,0,0⟩:=by simp[oW,h0,h1,h2]
    have e3:fJ s i=false:=by simp[fJ,h0,h1,h2]
    rw[e,e2,e3];exact Cv s b i w hB hr h0 h1 h2
  ·have h1:be (bt s (i+1))=false:=by simpa using h1
   have e:cR s i=1:=by simp[cR,h0,h1]
   have e2:oW s i=F2:=by simp[oW,h0,h1]
   have e3:fJ s i=false:=by simp[fJ,h0,h1]
   rw[e,e2,e3];exact DB s b i w hB hr h0 h1
 ·have h0:aR (bt s i)=false:=by simpa using h0
  have e:cR s i=0:=by simp[cR,h0]
  have e2:oW s i=F2:=by simp[oW,h0]
  have e3:fJ s i=false:=by simp[fJ,h0]
  rw[e,e2,e3];exact Dr s b i w hB hr h0
theorem Ev (s:ByteArray)(b i:Nat)(w:World)(hB:s.size≤400∧i≤400)(hr:Rd w b s i):Calls Tryz.prog 150 #[.pointer (some ⟨b,0,none⟩)] w (RP w b s (.tuple #[.agg (rk s i).arr,.bool (gm s i)]) (i+da s i)):=by
 by_cases h0:aR (bt s i)=true
 ·by_cases h1:be (bt s (i+1))=true
  ·have hj1:i+1<db s (i+1):=eB _ _
   have e:i+da s i=db s (i+1):=by simp[da,h0,h1];omega
   have e2:rk s i=wo s i:=by simp[rk,h0,h1]
   have e3:gm s i=true:=by simp[gm,h0,h1]
   rw[e,e2,e3];exact zE s b i w hB hr h0 h1
  ·have h1:be (bt s (i+1))=false:=by simpa using h1
   have e:da s i=1:=by simp[da,h0,h1]
   have e2:rk s i=⟨2,bt s i - 97,0,0,0,0,0,0⟩:=by simp[rk,h0,h1]
   have e3:gm s i=false:=by simp[gm,h0,h1]
   rw[e,e2,e3];exact Bb s b i w hB hr h0 h1
 ·have h0:aR (bt s i)=false:=by simpa using h0
  have e:da s i=0:=by simp[da,h0]
  have e2:rk s i=F2:=by simp[rk,h0]
  have e3:gm s i=false:=by simp[gm,h0]
  rw[e,e2,e3];exact z7 s b i w hB hr h0
theorem vr (s:ByteArray)(b i:Nat)(w:World)(hB:s.size≤400∧i≤400)(hr:Rd w b s i):Calls Tryz.prog 141 #[.pointer (some ⟨b,0,none⟩)] w (RP w b s (.tuple #[.agg (wy s i).arr,.bool (b7 s i)]) (i+aH s i)):=by
 have hs:=hB.1
 by_cases h:bt s i=33
 ·have hlt:i<s.size:=dg (by omega)
  have e1:b7 s i=(bz s (i+1)==3):=by simp[b7,h]
  have e2:i+aH s i=i+1+bz s (i+1):=by simp[aH,h];omega
  have e3:wy s i=mx 2 s (i+1):=by simp[wy,h]
  rw[e1,e2,e3]
  exact Di s b i w hB hr h _ _ _ _ _ _ _ _ _ (fun W hW=>yE s b (i+1) W ⟨hs,by omega⟩ hW 2)
 ·by_cases h1:aR (bt s i)=true
  ·have e1:b7 s i=(bz s i==3):=by simp[b7,h,h1]
   have e2:aH s i=bz s i:=by simp[aH,h,h1]
   have e3:wy s i=mx 1 s i:=by simp[wy,h,h1]
   rw[e1,e2,e3]
   exact C8 s b i w hB hr h h1 _ _ _ _ _ _ _ _ _ (fun W hW=>yE s b i W hB hW 1)
  ·have h1:aR (bt s i)=false:=by simpa using h1
   have e1:b7 s i=(bT s i==3):=by simp[b7,h,h1]
   have e2:aH s i=bT s i:=by simp[aH,h,h1]
   have e3:wy s i=oi s i:=by simp[wy,h,h1]
   rw[e1,e2,e3]
   exact zq s b i w hB hr h h1 _ _ _ _ _ _ _ _ _ (fun W hW=>EO s b i W hB hW)
theorem yq (s:ByteArray)(b i:Nat)(w:World)(hB:s.size≤400∧i≤400)(hr:Rd w b s i):Calls Tryz.prog 142 #[.pointer (some ⟨b,0,none⟩)] w (RP w b s (.tuple #[.agg (uC s i).arr,.bool (cT s i)]) (i+aS s i)):=by
 have hs:=hB.1
 by_cases h:bt s i=43
 ·have hlt:i<s.size:=dg (by omega)
  have e1:cT s i=fJ s (i+1):=by simp[cT,h]
  have e2:i+aS s i=i+1+cR s (i+1):=by simp[aS,h];omega
  have e3:uC s i=oW s (i+1):=by simp[uC,h]
  rw[e1,e2,e3]
  exact CW s b i w hB hr h _ _ _ _ _ _ _ _ _ _ (fun W hW=>Ep s b (i+1) W ⟨hs,by omega⟩ hW)
 ·by_cases h1:bt s i=45
  ·have hlt:i<s.size:=dg (by omega)
   have e1:cT s i=gm s (i+1):=by simp[cT,h1]
   have e2:i+aS s i=i+1+da s (i+1):=by simp[aS,h1];omega
   have e3:uC s i=rk s (i+1):=by simp[uC,h1]
   rw[e1,e2,e3]
   exact zv s b i w hB hr h1 _ _ _ _ _ _ _ _ _ _ (fun W hW=>Ev s b (i+1) W ⟨hs,by omega⟩ hW)
  ·have e3:uC s i=⟨3,0,0,0,0,0,0,0⟩:=by simp[uC,h,h1]
   by_cases h2:bt s i=46
   ·have e1:cT s i=true:=by simp[cT,h2]
    have e2:aS s i=1:=by simp[aS,h2]
    rw[e1,e2,e3]
    exact DQ s b i w hB hr h2
   ·have e1:cT s i=false:=by simp[cT,h,h1,h2]
    have e2:aS s i=0:=by simp[aS,h,h1,h2]
    rw[e1,e2,e3]
    exact CP s b i w hB hr h h1 h2
end Go.Proofs.YthlhbjnkohinmaaGreat
