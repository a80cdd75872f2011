import Derived.Test.YthlhbjnkohinmaaGreatP01
namespace Go.Proofs.YthlhbjnkohinmaaGreat
set_option maxRecDepth 100000
set_option maxHeartbeats 8000000
open Go.RowKit
structure Cd where
 k:Int
 c:Int
 g:Int
 a1:Int
 a2:Int
 b1:Int
 b2:Int
structure Ac where
 k:Int
 c:Int
 a1:Int
 a2:Int
 a3:Int
 b1:Int
 b2:Int
 b3:Int
abbrev Cd.arr (x:Cd):Array Value:=#[.int .i64 x.k,.int .i64 x.c,.int .u8 x.g,.int .i64 x.a1,.int .i64 x.a2,.int .i64 x.b1,.int .i64 x.b2]
abbrev Ac.arr (x:Ac):Array Value:=#[.int .i64 x.k,.int .i64 x.c,.int .i64 x.a1,.int .i64 x.a2,.int .i64 x.a3,.int .i64 x.b1,.int .i64 x.b2,.int .i64 x.b3]
theorem CA (s:ByteArray) (b i:Nat) (w:World) (hB:s.size≤400∧i≤400) (hr:Rd w b s i) (h:bt s i=33) (x0 x1 x2 x3 x4 x5 x6:Int) (ok:Bool) (j:Nat) (hp:∀ W,Rd W b s (i+1)→Calls Tryz.prog 147 #[.pointer (some ⟨b,0,none⟩),.int .i64 2] W (RP W b s (.tuple #[.agg #[.int .i64 x0,.int .i64 x1,.int .u8 x2,.int .i64 x3,.int .i64 x4,.int .i64 x5,.int .i64 x6],.bool ok]) j)):Calls Tryz.prog 141 #[.pointer (some ⟨b,0,none⟩)] w (RP w b s (.tuple #[.agg #[.int .i64 x0,.int .i64 x1,.int .u8 x2,.int .i64 x3,.int .i64 x4,.int .i64 x5,.int .i64 x6],.bool ok]) (j)):=by
 have hl:=hr.lt
 have hne:w.heap.size≠b:=by omega
 have hs:=hB.1
 have H:Hid (bt s i=33):=h
 clear h
 go_enter Tryz.func141,Tryz.ntmps141
 go_wp2_with fail
 go_at_call 123
 refine (eM s b i _ hB (hr.alloc _) 33 H.out).mono ?_
 rintro e w1 ⟨rfl,hr1,hg1⟩
 obtain⟨hc1,hf1⟩:=aU hg1
 have hn1:w1.heap.size≠b:=by have:=hr1.lt;omega
 have hzw1:w.heap.size<w1.heap.size:=by have:=hg1.size;(try simp at this);omega
 have hyw1:w.heap.size≤w1.heap.size:=Nat.le_of_lt hzw1
 have hxw1:w.heap.size≠w1.heap.size:=Nat.ne_of_lt hzw1
 have hk1:=af ((hg1.block w.heap.size (by simp) (by simp;omega)).trans (heap_alloc_new w _))
 go_wp2_with fail
 go_at_call 147
 refine (hp _ (by repeat' (first|(with_reducible assumption)|(with_reducible refine Rd.alloc ?_ _)|(with_reducible refine Rd.drewN ?_ _)|(with_reducible refine Rd.step ?_)|(with_reducible refine Rd.other ?_ ?_ _)|(simp;omega)))).mono ?_
 rintro e w2 ⟨rfl,hr2,hg2⟩
 obtain⟨hc2,hf2⟩:=aU hg2
 have hn2:w2.heap.size≠b:=by have:=hr2.lt;omega
 have hzw2:w.heap.size<w2.heap.size:=by have:=hg2.size;(try simp at this);omega
 have hyw2:w.heap.size≤w2.heap.size:=Nat.le_of_lt hzw2
 have hxw2:w.heap.size≠w2.heap.size:=Nat.ne_of_lt hzw2
 have hk2:=af ((hg2.block w.heap.size (by (try simp);omega) (by simp;omega)).trans hk1.out)
 go_wp2
 refine bodyPost_ret (v:=.tuple #[.agg #[.int .i64 x0,.int .i64 x1,.int .u8 x2,.int .i64 x3,.int .i64 x4,.int .i64 x5,.int .i64 x6],.bool ok]) (aN Tryz.results141 rfl (Go.heap_setCell_same _ _ 6 _ _ _ (Go.heap_setCell_same _ _ 5 _ _ _ (Go.heap_setCell_same _ _ 4 _ _ _ (Go.heap_setCell_same _ _ 3 _ _ _ (Go.heap_setCell_same _ _ 2 _ _ _ (Go.heap_setCell_same _ _ 1 _ _ _ (Go.heap_setCell_same _ _ 0 _ _ _ hk2.out))))))) Tryz.underlying206 rfl (by kernel_rfl) rfl) rfl ⟨rfl,?_,?_⟩
 ·repeat' (first|(with_reducible assumption)|(with_reducible refine Rd.alloc ?_ _)|(with_reducible refine Rd.drewN ?_ _)|(with_reducible refine Rd.step ?_)|(with_reducible refine Rd.other ?_ ?_ _)|(simp;omega))
 ·repeat' (first|(with_reducible assumption)|(with_reducible exact ag _ _)|(with_reducible refine aj ?_ ?_ _)|(with_reducible refine ab ?_ _)|(with_reducible refine al ?_ _)|(with_reducible refine ae ?_ (by assumption))|(right;simp;done)|(right;simp;omega)|(left;rfl))
theorem BY (s:ByteArray) (b i:Nat) (w:World) (hB:s.size≤400∧i≤400) (hr:Rd w b s i) (h:¬bt s i=33) (h1:aQ (bt s i)=true) (x0 x1 x2 x3 x4 x5 x6:Int) (ok:Bool) (j:Nat) (hp:∀ W,Rd W b s (i)→Calls Tryz.prog 147 #[.pointer (some ⟨b,0,none⟩),.int .i64 1] W (RP W b s (.tuple #[.agg #[.int .i64 x0,.int .i64 x1,.int .u8 x2,.int .i64 x3,.int .i64 x4,.int .i64 x5,.int .i64 x6],.bool ok]) j)):Calls Tryz.prog 141 #[.pointer (some ⟨b,0,none⟩)] w (RP w b s (.tuple #[.agg #[.int .i64 x0,.int .i64 x1,.int .u8 x2,.int .i64 x3,.int .i64 x4,.int .i64 x5,.int .i64 x6],.bool ok]) (j)):=by
 have hl:=hr.lt
 have hne:w.heap.size≠b:=by omega
 have hs:=hB.1
 have H:Hid (¬bt s i=33):=h
 clear h
 have hb:=bV s i
 go_enter Tryz.func141,Tryz.ntmps141
 go_wp2_with fail
 go_at_call 123
 refine (dj s b i _ hB (hr.alloc _) 33 H.out).mono ?_
 rintro e w1 ⟨rfl,hr1,hg1⟩
 obtain⟨hc1,hf1⟩:=aU hg1
 have hn1:w1.heap.size≠b:=by have:=hr1.lt;omega
 have hzw1:w.heap.size<w1.heap.size:=by have:=hg1.size;(try simp at this);omega
 have hyw1:w.heap.size≤w1.heap.size:=Nat.le_of_lt hzw1
 have hxw1:w.heap.size≠w1.heap.size:=Nat.ne_of_lt hzw1
 have hk1:=af ((hg1.block w.heap.size (by simp) (by simp;omega)).trans (heap_alloc_new w _))
 go_wp2_with fail
 go_at_call 140
 refine (eT s b i _ hs hr1).mono ?_
 rintro e w' ⟨rfl,n,rfl⟩
 go_wp2_with fail
 go_at_call 82
 refine (l9 _ _ hb.1 hb.2 h1).mono ?_
 rintro e w' ⟨rfl,rfl⟩
 go_wp2_with fail
 go_at_call 147
 refine (hp _ (by repeat' (first|(with_reducible assumption)|(with_reducible refine Rd.alloc ?_ _)|(with_reducible refine Rd.drewN ?_ _)|(with_reducible refine Rd.step ?_)|(with_reducible refine Rd.other ?_ ?_ _)|(simp;omega)))).mono ?_
 rintro e w2 ⟨rfl,hr2,hg2⟩
 replace hg2:=cF hg2
 obtain⟨hc2,hf2⟩:=aU hg2
 have hn2:w2.heap.size≠b:=by have:=hr2.lt;omega
 have hzw2:w.heap.size<w2.heap.size:=by have:=hg2.size;(try simp at this);omega
 have hyw2:w.heap.size≤w2.heap.size:=Nat.le_of_lt hzw2
 have hxw2:w.heap.size≠w2.heap.size:=Nat.ne_of_lt hzw2
 have hk2:=af ((hg2.block w.heap.size (by (try simp);omega) (by simp;omega)).trans hk1.out)
 go_wp2
 refine bodyPost_ret (v:=.tuple #[.agg #[.int .i64 x0,.int .i64 x1,.int .u8 x2,.int .i64 x3,.int .i64 x4,.int .i64 x5,.int .i64 x6],.bool ok]) (aN Tryz.results141 rfl (Go.heap_setCell_same _ _ 6 _ _ _ (Go.heap_setCell_same _ _ 5 _ _ _ (Go.heap_setCell_same _ _ 4 _ _ _ (Go.heap_setCell_same _ _ 3 _ _ _ (Go.heap_setCell_same _ _ 2 _ _ _ (Go.heap_setCell_same _ _ 1 _ _ _ (Go.heap_setCell_same _ _ 0 _ _ _ hk2.out))))))) Tryz.underlying206 rfl (by kernel_rfl) rfl) rfl ⟨rfl,?_,?_⟩
 ·repeat' (first|(with_reducible assumption)|(with_reducible refine Rd.alloc ?_ _)|(with_reducible refine Rd.drewN ?_ _)|(with_reducible refine Rd.step ?_)|(with_reducible refine Rd.other ?_ ?_ _)|(simp;omega))
 ·repeat' (first|(with_reducible assumption)|(with_reducible exact ag _ _)|(with_reducible refine aj ?_ ?_ _)|(with_reducible refine ab ?_ _)|(with_reducible refine al ?_ _)|(with_reducible refine ae ?_ (by assumption))|(right;simp;done)|(right;simp;omega)|(left;rfl))
theorem Bn (s:ByteArray) (b i:Nat) (w:World) (hB:s.size≤400∧i≤400) (hr:Rd w b s i) (h:¬bt s i=33) (h1:aQ (bt s i)=false) (x0 x1 x2 x3 x4 x5 x6:Int) (ok:Bool) (j:Nat) (hp:∀ W,Rd W b s (i)→Calls Tryz.prog 148 #[.pointer (some ⟨b,0,none⟩)] W (RP W b s (.tuple #[.agg #[.int .i64 x0,.int .i64 x1,.int .u8 x2,.int .i64 x3,.int .i64 x4,.int .i64 x5,.int .i64 x6],.bool ok]) j)):Calls Tryz.prog 141 #[.pointer (some ⟨b,0,none⟩)] w (RP w b s (.tuple #[.agg #[.int .i64 x0,.int .i64 x1,.int .u8 x2,.int .i64 x3,.int .i64 x4,.int .i64 x5,.int .i64 x6],.bool ok]) (j)):=by
 have hl:=hr.lt
 have hne:w.heap.size≠b:=by omega
 have hs:=hB.1
 have H:Hid (¬bt s i=33):=h
 clear h
 have hb:=bV s i
 go_enter Tryz.func141,Tryz.ntmps141
 go_wp2_with fail
 go_at_call 123
 refine (dj s b i _ hB (hr.alloc _) 33 H.out).mono ?_
 rintro e w1 ⟨rfl,hr1,hg1⟩
 obtain⟨hc1,hf1⟩:=aU hg1
 have hn1:w1.heap.size≠b:=by have:=hr1.lt;omega
 have hzw1:w.heap.size<w1.heap.size:=by have:=hg1.size;(try simp at this);omega
 have hyw1:w.heap.size≤w1.heap.size:=Nat.le_of_lt hzw1
 have hxw1:w.heap.size≠w1.heap.size:=Nat.ne_of_lt hzw1
 have hk1:=af ((hg1.block w.heap.size (by simp) (by simp;omega)).trans (heap_alloc_new w _))
 go_wp2_with fail
 go_at_call 140
 refine (eT s b i _ hs hr1).mono ?_
 rintro e w' ⟨rfl,n,rfl⟩
 go_wp2_with fail
 go_at_call 82
 refine (nH _ _ hb.1 hb.2 h1).mono ?_
 rintro e w' ⟨rfl,rfl⟩
 go_wp2_with fail
 go_at_call 148
 refine (hp _ (by repeat' (first|(with_reducible assumption)|(with_reducible refine Rd.alloc ?_ _)|(with_reducible refine Rd.drewN ?_ _)|(with_reducible refine Rd.step ?_)|(with_reducible refine Rd.other ?_ ?_ _)|(simp;omega)))).mono ?_
 rintro e w2 ⟨rfl,hr2,hg2⟩
 replace hg2:=cF hg2
 obtain⟨hc2,hf2⟩:=aU hg2
 have hn2:w2.heap.size≠b:=by have:=hr2.lt;omega
 have hzw2:w.heap.size<w2.heap.size:=by have:=hg2.size;(try simp at this);omega
 have hyw2:w.heap.size≤w2.heap.size:=Nat.le_of_lt hzw2
 have hxw2:w.heap.size≠w2.heap.size:=Nat.ne_of_lt hzw2
 have hk2:=af ((hg2.block w.heap.size (by (try simp);omega) (by simp;omega)).trans hk1.out)
 go_wp2
 refine bodyPost_ret (v:=.tuple #[.agg #[.int .i64 x0,.int .i64 x1,.int .u8 x2,.int .i64 x3,.int .i64 x4,.int .i64 x5,.int .i64 x6],.bool ok]) (aN Tryz.results141 rfl (Go.heap_setCell_same _ _ 6 _ _ _ (Go.heap_setCell_same _ _ 5 _ _ _ (Go.heap_setCell_same _ _ 4 _ _ _ (Go.heap_setCell_same _ _ 3 _ _ _ (Go.heap_setCell_same _ _ 2 _ _ _ (Go.heap_setCell_same _ _ 1 _ _ _ (Go.heap_setCell_same _ _ 0 _ _ _ hk2.out))))))) Tryz.underlying206 rfl (by kernel_rfl) rfl) rfl ⟨rfl,?_,?_⟩
 ·repeat' (first|(with_reducible assumption)|(with_reducible refine Rd.alloc ?_ _)|(with_reducible refine Rd.drewN ?_ _)|(with_reducible refine Rd.step ?_)|(with_reducible refine Rd.other ?_ ?_ _)|(simp;omega))
 ·repeat' (first|(with_reducible assumption)|(with_reducible exact ag _ _)|(with_reducible refine aj ?_ ?_ _)|(with_reducible refine ab ?_ _)|(with_reducible refine al ?_ _)|(with_reducible refine ae ?_ (by assumption))|(right;simp;done)|(right;simp;omega)|(left;rfl))
theorem BN (s:ByteArray) (b i:Nat) (w:World) (hB:s.size≤400∧i≤400) (hr:Rd w b s i) (h:bt s i=43) (x0 x1 x2 x3 x4 x5 x6 x7:Int) (ok:Bool) (j:Nat) (hp:∀ W,Rd W b s (i+1)→Calls Tryz.prog 149 #[.pointer (some ⟨b,0,none⟩)] W (RP W b s (.tuple #[.agg #[.int .i64 x0,.int .i64 x1,.int .i64 x2,.int .i64 x3,.int .i64 x4,.int .i64 x5,.int .i64 x6,.int .i64 x7],.bool ok]) j)):Calls Tryz.prog 142 #[.pointer (some ⟨b,0,none⟩)] w (RP w b s (.tuple #[.agg #[.int .i64 x0,.int .i64 x1,.int .i64 x2,.int .i64 x3,.int .i64 x4,.int .i64 x5,.int .i64 x6,.int .i64 x7],.bool ok]) (j)):=by
 have hl:=hr.lt
 have hne:w.heap.size≠b:=by omega
 have hs:=hB.1
 have H:Hid (bt s i=43):=h
 clear h
 go_enter Tryz.func142,Tryz.ntmps142
 go_wp2_with fail
 go_at_call 123
 refine (eM s b i _ hB (hr.alloc _) 43 H.out).mono ?_
 rintro e w1 ⟨rfl,hr1,hg1⟩
 obtain⟨hc1,hf1⟩:=aU hg1
 have hn1:w1.heap.size≠b:=by have:=hr1.lt;omega
 have hzw1:w.heap.size<w1.heap.size:=by have:=hg1.size;(try simp at this);omega
 have hyw1:w.heap.size≤w1.heap.size:=Nat.le_of_lt hzw1
 have hxw1:w.heap.size≠w1.heap.size:=Nat.ne_of_lt hzw1
 have hk1:=af ((hg1.block w.heap.size (by simp) (by simp;omega)).trans (heap_alloc_new w _))
 go_wp2_with fail
 go_at_call 149
 refine (hp _ (by repeat' (first|(with_reducible assumption)|(with_reducible refine Rd.alloc ?_ _)|(with_reducible refine Rd.drewN ?_ _)|(with_reducible refine Rd.step ?_)|(with_reducible refine Rd.other ?_ ?_ _)|(simp;omega)))).mono ?_
 rintro e w2 ⟨rfl,hr2,hg2⟩
 obtain⟨hc2,hf2⟩:=aU hg2
 have hn2:w2.heap.size≠b:=by have:=hr2.lt;omega
 have hzw2:w.heap.size<w2.heap.size:=by have:=hg2.size;(try simp at this);omega
 have hyw2:w.heap.size≤w2.heap.size:=Nat.le_of_lt hzw2
 have hxw2:w.heap.size≠w2.heap.size:=Nat.ne_of_lt hzw2
 have hk2:=af ((hg2.block w.heap.size (by (try simp);omega) (by simp;omega)).trans hk1.out)
 go_wp2
 refine bodyPost_ret (v:=.tuple #[.agg #[.int .i64 x0,.int .i64 x1,.int .i64 x2,.int .i64 x3,.int .i64 x4,.int .i64 x5,.int .i64 x6,.int .i64 x7],.bool ok]) (aN Tryz.results142 rfl (Go.heap_setCell_same _ _ 7 _ _ _ (Go.heap_setCell_same _ _ 6 _ _ _ (Go.heap_setCell_same _ _ 5 _ _ _ (Go.heap_setCell_same _ _ 4 _ _ _ (Go.heap_setCell_same _ _ 3 _ _ _ (Go.heap_setCell_same _ _ 2 _ _ _ (Go.heap_setCell_same _ _ 1 _ _ _ (Go.heap_setCell_same _ _ 0 _ _ _ hk2.out)))))))) Tryz.underlying219 rfl (by kernel_rfl) rfl) rfl ⟨rfl,?_,?_⟩
 ·repeat' (first|(with_reducible assumption)|(with_reducible refine Rd.alloc ?_ _)|(with_reducible refine Rd.drewN ?_ _)|(with_reducible refine Rd.step ?_)|(with_reducible refine Rd.other ?_ ?_ _)|(simp;omega))
 ·repeat' (first|(with_reducible assumption)|(with_reducible exact ag _ _)|(with_reducible refine aj ?_ ?_ _)|(with_reducible refine ab ?_ _)|(with_reducible refine al ?_ _)|(with_reducible refine ae ?_ (by assumption))|(right;simp;done)|(right;simp;omega)|(left;rfl))
theorem Bp (s:ByteArray) (b i:Nat) (w:World) (hB:s.size≤400∧i≤400) (hr:Rd w b s i) (h:bt s i=45) (x0 x1 x2 x3 x4 x5 x6 x7:Int) (ok:Bool) (j:Nat) (hp:∀ W,Rd W b s (i+1)→Calls Tryz.prog 150 #[.pointer (some ⟨b,0,none⟩)] W (RP W b s (.tuple #[.agg #[.int .i64 x0,.int .i64 x1,.int .i64 x2,.int .i64 x3,.int .i64 x4,.int .i64 x5,.int .i64 x6,.int .i64 x7],.bool ok]) j)):Calls Tryz.prog 142 #[.pointer (some ⟨b,0,none⟩)] w (RP w b s (.tuple #[.agg #[.int .i64 x0,.int .i64 x1,.int .i64 x2,.int .i64 x3,.int .i64 x4,.int .i64 x5,.int .i64 x6,.int .i64 x7],.bool ok]) (j)):=by
 have hl:=hr.lt
 have hne:w.heap.size≠b:=by omega
 have hs:=hB.1
 have H:Hid (bt s i=45):=h
 have H1:Hid (¬bt s i=43):=by intro hx;omega
 clear h
 go_enter Tryz.func142,Tryz.ntmps142
 go_wp2_with fail
 go_at_call 123
 refine (dj s b i _ hB (hr.alloc _) 43 H1.out).mono ?_
 rintro e w1 ⟨rfl,hr1,hg1⟩
 obtain⟨hc1,hf1⟩:=aU hg1
 have hn1:w1.heap.size≠b:=by have:=hr1.lt;omega
 have hzw1:w.heap.size<w1.heap.size:=by have:=hg1.size;(try simp at this);omega
 have hyw1:w.heap.size≤w1.heap.size:=Nat.le_of_lt hzw1
 have hxw1:w.heap.size≠w1.heap.size:=Nat.ne_of_lt hzw1
 have hk1:=af ((hg1.block w.heap.size (by simp) (by simp;omega)).trans (heap_alloc_new w _))
 go_wp2_with fail
 go_at_call 123
 refine (eM s b i _ hB (by repeat' (first|(with_reducible assumption)|(with_reducible refine Rd.alloc ?_ _)|(with_reducible refine Rd.drewN ?_ _)|(with_reducible refine Rd.step ?_)|(with_reducible refine Rd.other ?_ ?_ _)|(simp;omega))) 45 H.out).mono ?_
 rintro e w2 ⟨rfl,hr2,hg2⟩
 obtain⟨hc2,hf2⟩:=aU hg2
 have hn2:w2.heap.size≠b:=by have:=hr2.lt;omega
 have hzw2:w.heap.size<w2.heap.size:=by have:=hg2.size;(try simp at this);omega
 have hyw2:w.heap.size≤w2.heap.size:=Nat.le_of_lt hzw2
 have hxw2:w.heap.size≠w2.heap.size:=Nat.ne_of_lt hzw2
 have hk2:=af ((hg2.block w.heap.size (by (try simp);omega) (by simp;omega)).trans hk1.out)
 go_wp2_with fail
 go_at_call 150
 refine (hp _ (by repeat' (first|(with_reducible assumption)|(with_reducible refine Rd.alloc ?_ _)|(with_reducible refine Rd.drewN ?_ _)|(with_reducible refine Rd.step ?_)|(with_reducible refine Rd.other ?_ ?_ _)|(simp;omega)))).mono ?_
 rintro e w3 ⟨rfl,hr3,hg3⟩
 obtain⟨hc3,hf3⟩:=aU hg3
 have hn3:w3.heap.size≠b:=by have:=hr3.lt;omega
 have hzw3:w.heap.size<w3.heap.size:=by have:=hg3.size;(try simp at this);omega
 have hyw3:w.heap.size≤w3.heap.size:=Nat.le_of_lt hzw3
 have hxw3:w.heap.size≠w3.heap.size:=Nat.ne_of_lt hzw3
 have hk3:=af ((hg3.block w.heap.size (by (try simp);omega) (by simp;omega)).trans hk2.out)
 go_wp2
 refine bodyPost_ret (v:=.tuple #[.agg #[.int .i64 x0,.int .i64 x1,.int .i64 x2,.int .i64 x3,.int .i64 x4,.int .i64 x5,.int .i64 x6,.int .i64 x7],.bool ok]) (aN Tryz.results142 rfl (Go.heap_setCell_same _ _ 7 _ _ _ (Go.heap_setCell_same _ _ 6 _ _ _ (Go.heap_setCell_same _ _ 5 _ _ _ (Go.heap_setCell_same _ _ 4 _ _ _ (Go.heap_setCell_same _ _ 3 _ _ _ (Go.heap_setCell_same _ _ 2 _ _ _ (Go.heap_setCell_same _ _ 1 _ _ _ (Go.heap_setCell_same _ _ 0 _ _ _ hk3.out)))))))) Tryz.underlying219 rfl (by kernel_rfl) rfl) rfl ⟨rfl,?_,?_⟩
 ·repeat' (first|(with_reducible assumption)|(with_reducible refine Rd.alloc ?_ _)|(with_reducible refine Rd.drewN ?_ _)|(with_reducible refine Rd.step ?_)|(with_reducible refine Rd.other ?_ ?_ _)|(simp;omega))
 ·repeat' (first|(with_reducible assumption)|(with_reducible exact ag _ _)|(with_reducible refine aj ?_ ?_ _)|(with_reducible refine ab ?_ _)|(with_reducible refine al ?_ _)|(with_reducible refine ae ?_ (by assumption))|(right;simp;done)|(right;simp;omega)|(left;rfl))
theorem CT (s:ByteArray) (b i:Nat) (w:World) (hB:s.size≤400∧i≤400) (hr:Rd w b s i) (h:bt s i=46):Calls Tryz.prog 142 #[.pointer (some ⟨b,0,none⟩)] w (RP w b s (.tuple #[.agg #[.int .i64 3,.int .i64 0,.int .i64 0,.int .i64 0,.int .i64 0,.int .i64 0,.int .i64 0,.int .i64 0],.bool true]) (i+1)):=by
 have hl:=hr.lt
 have hne:w.heap.size≠b:=by omega
 have hs:=hB.1
 have H:Hid (bt s i=46):=h
 have H1:Hid (¬bt s i=43):=by intro hx;omega
 have H2:Hid (¬bt s i=45):=by intro hx;omega
 clear h
 go_enter Tryz.func142,Tryz.ntmps142
 go_wp2_with fail
 go_at_call 123
 refine (dj s b i _ hB (hr.alloc _) 43 H1.out).mono ?_
 rintro e w1 ⟨rfl,hr1,hg1⟩
 obtain⟨hc1,hf1⟩:=aU hg1
 have hn1:w1.heap.size≠b:=by have:=hr1.lt;omega
 have hzw1:w.heap.size<w1.heap.size:=by have:=hg1.size;(try simp at this);omega
 have hyw1:w.heap.size≤w1.heap.size:=Nat.le_of_lt hzw1
 have hxw1:w.heap.size≠w1.heap.size:=Nat.ne_of_lt hzw1
 have hk1:=af ((hg1.block w.heap.size (by simp) (by simp;omega)).trans (heap_alloc_new w _))
 go_wp2_with fail
 go_at_call 123
 refine (dj s b i _ hB (by repeat' (first|(with_reducible assumption)|(with_reducible refine Rd.alloc ?_ _)|(with_reducible refine Rd.drewN ?_ _)|(with_reducible refine Rd.step ?_)|(with_reducible refine Rd.other ?_ ?_ _)|(simp;omega))) 45 H2.out).mono ?_
 rintro e w2 ⟨rfl,hr2,hg2⟩
 obtain⟨hc2,hf2⟩:=aU hg2
 have hn2:w2.heap.size≠b:=by have:=hr2.lt;omega
 have hzw2:w.heap.size<w2.heap.size:=by have:=hg2.size;(try simp at this);omega
 have hyw2:w.heap.size≤w2.heap.size:=Nat.le_of_lt hzw2
 have hxw2:w.heap.size≠w2.heap.size:=Nat.ne_of_lt hzw2
 have hk2:=af ((hg2.block w.heap.size (by (try simp);omega) (by simp;omega)).trans hk1.out)
 go_wp2_with fail
 go_at_call 123
 refine (eM s b i _ hB (by repeat' (first|(with_reducible assumption)|(with_reducible refine Rd.alloc ?_ _)|(with_reducible refine Rd.drewN ?_ _)|(with_reducible refine Rd.step ?_)|(with_reducible refine Rd.other ?_ ?_ _)|(simp;omega))) 46 H.out).mono ?_
 rintro e w3 ⟨rfl,hr3,hg3⟩
 obtain⟨hc3,hf3⟩:=aU hg3
 have hn3:w3.heap.size≠b:=by have:=hr3.lt;omega
 have hzw3:w.heap.size<w3.heap.size:=by have:=hg3.size;(try simp at this);omega
 have hyw3:w.heap.size≤w3.heap.size:=Nat.le_of_lt hzw3
 have hxw3:w.heap.size≠w3.heap.size:=Nat.ne_of_lt hzw3
 have hk3:=af ((hg3.block w.heap.size (by (try simp);omega) (by simp;omega)).trans hk2.out)
 go_wp2
 refine bodyPost_ret (v:=.tuple #[.agg #[.int .i64 3,.int .i64 0,.int .i64 0,.int .i64 0,.int .i64 0,.int .i64 0,.int .i64 0,.int .i64 0],.bool true]) (aN Tryz.results142 rfl (Go.heap_setCell_same _ _ 7 _ _ _ (Go.heap_setCell_same _ _ 6 _ _ _ (Go.heap_setCell_same _ _ 5 _ _ _ (Go.heap_setCell_same _ _ 4 _ _ _ (Go.heap_setCell_same _ _ 3 _ _ _ (Go.heap_setCell_same _ _ 2 _ _ _ (Go.heap_setCell_same _ _ 1 _ _ _ (Go.heap_setCell_same _ _ 0 _ _ _ hk3.out)))))))) Tryz.underlying219 rfl (by kernel_rfl) rfl) rfl ⟨rfl,?_,?_⟩
 ·repeat' (first|(with_reducible assumption)|(with_reducible refine Rd.alloc ?_ _)|(with_reducible refine Rd.drewN ?_ _)|(with_reducible refine Rd.step ?_)|(with_reducible refine Rd.other ?_ ?_ _)|(simp;omega))
 ·repeat' (first|(with_reducible assumption)|(with_reducible exact ag _ _)|(with_reducible refine aj ?_ ?_ _)|(with_reducible refine ab ?_ _)|(with_reducible refine al ?_ _)|(with_reducible refine ae ?_ (by assumption))|(right;simp;done)|(right;simp;omega)|(left;rfl))
theorem De (s:ByteArray) (b i:Nat) (w:World) (hB:s.size≤400∧i≤400) (hr:Rd w b s i) (h0:¬bt s i=43) (h1:¬bt s i=45) (h2:¬bt s i=46):Calls Tryz.prog 142 #[.pointer (some ⟨b,0,none⟩)] w (RP w b s (.tuple #[.agg #[.int .i64 3,.int .i64 0,.int .i64 0,.int .i64 0,.int .i64 0,.int .i64 0,.int .i64 0,.int .i64 0],.bool false]) (i)):=by
 have hl:=hr.lt
 have hne:w.heap.size≠b:=by omega
 have hs:=hB.1
 have H:Hid (¬bt s i=46):=h2
 have H1:Hid (¬bt s i=43):=h0
 have H2:Hid (¬bt s i=45):=h1
 clear h0 h1 h2
 go_enter Tryz.func142,Tryz.ntmps142
 go_wp2_with fail
 go_at_call 123
 refine (dj s b i _ hB (hr.alloc _) 43 H1.out).mono ?_
 rintro e w1 ⟨rfl,hr1,hg1⟩
 obtain⟨hc1,hf1⟩:=aU hg1
 have hn1:w1.heap.size≠b:=by have:=hr1.lt;omega
 have hzw1:w.heap.size<w1.heap.size:=by have:=hg1.size;(try simp at this);omega
 have hyw1:w.heap.size≤w1.heap.size:=Nat.le_of_lt hzw1
 have hxw1:w.heap.size≠w1.heap.size:=Nat.ne_of_lt hzw1
 have hk1:=af ((hg1.block w.heap.size (by simp) (by simp;omega)).trans (heap_alloc_new w _))
 go_wp2_with fail
 go_at_call 123
 refine (dj s b i _ hB (by repeat' (first|(with_reducible assumption)|(with_reducible refine Rd.alloc ?_ _)|(with_reducible refine Rd.drewN ?_ _)|(with_reducible refine Rd.step ?_)|(with_reducible refine Rd.other ?_ ?_ _)|(simp;omega))) 45 H2.out).mono ?_
 rintro e w2 ⟨rfl,hr2,hg2⟩
 obtain⟨hc2,hf2⟩:=aU hg2
 have hn2:w2.heap.size≠b:=by have:=hr2.lt;omega
 have hzw2:w.heap.size<w2.heap.size:=by have:=hg2.size;(try simp at this);omega
 have hyw2:w.heap.size≤w2.heap.size:=Nat.le_of_lt hzw2
 have hxw2:w.heap.size≠w2.heap.size:=Nat.ne_of_lt hzw2
 have hk2:=af ((hg2.block w.heap.size (by (try simp);omega) (by simp;omega)).trans hk1.out)
 go_wp2_with fail
 go_at_call 123
 refine (dj s b i _ hB (by repeat' (first|(with_reducible assumption)|(with_reducible refine Rd.alloc ?_ _)|(with_reducible refine Rd.drewN ?_ _)|(with_reducible refine Rd.step ?_)|(with_reducible refine Rd.other ?_ ?_ _)|(simp;omega))) 46 H.out).mono ?_
 rintro e w3 ⟨rfl,hr3,hg3⟩
 obtain⟨hc3,hf3⟩:=aU hg3
 have hn3:w3.heap.size≠b:=by have:=hr3.lt;omega
 have hzw3:w.heap.size<w3.heap.size:=by have:=hg3.size;(try simp at this);omega
 have hyw3:w.heap.size≤w3.heap.size:=Nat.le_of_lt hzw3
 have hxw3:w.heap.size≠w3.heap.size:=Nat.ne_of_lt hzw3
 have hk3:=af ((hg3.block w.heap.size (by (try simp);omega) (by simp;omega)).trans hk2.out)
 go_wp2
 refine bodyPost_ret (v:=.tuple #[.agg #[.int .i64 3,.int .i64 0,.int .i64 0,.int .i64 0,.int .i64 0,.int .i64 0,.int .i64 0,.int .i64 0],.bool false]) (aN Tryz.results142 rfl (Go.heap_setCell_same _ _ 7 _ _ _ (Go.heap_setCell_same _ _ 6 _ _ _ (Go.heap_setCell_same _ _ 5 _ _ _ (Go.heap_setCell_same _ _ 4 _ _ _ (Go.heap_setCell_same _ _ 3 _ _ _ (Go.heap_setCell_same _ _ 2 _ _ _ (Go.heap_setCell_same _ _ 1 _ _ _ (Go.heap_setCell_same _ _ 0 _ _ _ hk3.out)))))))) Tryz.underlying219 rfl (by kernel_rfl) rfl) rfl ⟨rfl,?_,?_⟩
 ·repeat' (first|(with_reducible assumption)|(with_reducible refine Rd.alloc ?_ _)|(with_reducible refine Rd.drewN ?_ _)|(with_reducible refine Rd.step ?_)|(with_reducible refine Rd.other ?_ ?_ _)|(simp;omega))
 ·repeat' (first|(with_reducible assumption)|(with_reducible exact ag _ _)|(with_reducible refine aj ?_ ?_ _)|(with_reducible refine ab ?_ _)|(with_reducible refine al ?_ _)|(with_reducible refine ae ?_ (by assumption))|(right;simp;done)|(right;simp;omega)|(left;rfl))
def bx (s:ByteArray) (i:Nat):Nat:=if aQ (bt s i) then (if c8 (bt s (i+1)) then (if c8 (bt s (i+2)) then 3 else 2) else 1) else 0
def bT (s:ByteArray) (i:Nat):Nat:=if bc (bt s i) then (if gF (bt s (i+1)) then (if bc (bt s (i+2)) then 3 else 2) else 1) else 0
def aG (s:ByteArray) (i:Nat):Nat:=if bt s i=33 then 1+bx s (i+1) else if aQ (bt s i) then bx s i else bT s i
def b7 (s:ByteArray) (i:Nat):Bool:=if bt s i=33 then bx s (i+1)==3 else if aQ (bt s i) then bx s i==3 else bT s i==3
def lU (kind:Int) (s:ByteArray) (i:Nat):Cd:=⟨kind,bt s i - 97,0,dw (bt s (i+1)),dC (bt s (i+1)),dw (bt s (i+2)),dC (bt s (i+2))⟩
def rf (s:ByteArray) (i:Nat):Cd:=⟨3,0,bt s (i+1),dw (bt s i),dC (bt s i),dw (bt s (i+2)),dC (bt s (i+2))⟩
def dg (s:ByteArray) (i:Nat):Cd:=if bt s i=33 then lU 2 s (i+1) else if aQ (bt s i) then lU 1 s i else rf s i
def cO (s:ByteArray) (i:Nat):Nat:=if aQ (bt s i) then (if bc (bt s (i+1)) then (if bc (bt s (c9 s (i+1))) then c9 s (c9 s (i+1)) - i else c9 s (i+1) - i) else 1) else 0
def fI (s:ByteArray) (i:Nat):Bool:=aQ (bt s i)&&bc (bt s (i+1))&&bc (bt s (c9 s (i+1)))
def c7 (s:ByteArray) (i:Nat):Nat:=if aQ (bt s i) then (if bc (bt s (i+1)) then c9 s (i+1) - i else 1) else 0
def gk (s:ByteArray) (i:Nat):Bool:=aQ (bt s i)&&bc (bt s (i+1))
def aT (s:ByteArray) (i:Nat):Nat:=if bt s i=43 then 1+cO s (i+1) else if bt s i=45 then 1+c7 s (i+1) else if bt s i=46 then 1 else 0
def cP (s:ByteArray) (i:Nat):Bool:=if bt s i=43 then fI s (i+1) else if bt s i=45 then gk s (i+1) else bt s i==46
def xD (s:ByteArray) (i:Nat):Ac:=⟨1,bt s i - 97,dw (bt s (i+1)),dC (bt s (i+1)),id (bt s (i+1+1)),dw (bt s (c9 s (i+1))),dC (bt s (c9 s (i+1))),id (bt s (c9 s (i+1)+1))⟩
def vH (s:ByteArray) (i:Nat):Ac:=⟨2,bt s i - 97,dw (bt s (i+1)),dC (bt s (i+1)),id (bt s (i+1+1)),0,0,0⟩
def d9 (s:ByteArray) (i:Nat):Ac:=if bt s i=43 then xD s (i+1) else if bt s i=45 then vH s (i+1) else ⟨3,0,0,0,0,0,0,0⟩
theorem es (s:ByteArray) (i:Nat):i<c9 s i:=by unfold c9;split <;> omega
def Fp:Cd:=⟨0,0,0,0,0,0,0⟩
def FY:Ac:=⟨0,0,0,0,0,0,0,0⟩
def ml (kind:Int) (s:ByteArray) (i:Nat):Cd:=if aQ (bt s i) then (if c8 (bt s (i+1)) then (if c8 (bt s (i+2)) then lU kind s i else ⟨kind,bt s i - 97,0,dw (bt s (i+1)),dC (bt s (i+1)),0,0⟩) else Fp) else Fp
def oo (s:ByteArray) (i:Nat):Cd:=if bc (bt s i) then (if gF (bt s (i+1)) then (if bc (bt s (i+2)) then rf s i else ⟨3,0,bt s (i+1),dw (bt s i),dC (bt s i),0,0⟩) else Fp) else Fp
def wo (s:ByteArray) (i:Nat):Cd:=if bt s i=33 then ml 2 s (i+1) else if aQ (bt s i) then ml 1 s i else oo s i
def oU (s:ByteArray) (i:Nat):Ac:=if aQ (bt s i) then (if bc (bt s (i+1)) then (if bc (bt s (c9 s (i+1))) then xD s i else ⟨1,bt s i - 97,dw (bt s (i+1)),dC (bt s (i+1)),id (bt s (i+1+1)),0,0,0⟩) else FY) else FY
def rg (s:ByteArray) (i:Nat):Ac:=if aQ (bt s i) then (if bc (bt s (i+1)) then vH s i else ⟨2,bt s i - 97,0,0,0,0,0,0⟩) else FY
def wj (s:ByteArray) (i:Nat):Ac:=if bt s i=43 then oU s (i+1) else if bt s i=45 then rg s (i+1) else ⟨3,0,0,0,0,0,0,0⟩
theorem yD {kind:Int} {s:ByteArray} {i:Nat} (h:bx s i=3):ml kind s i=lU kind s i:=by
 unfold bx at h;unfold ml
 split at h
 ·split at h
  ·split at h
   ·simp[*]
   ·omega
  ·omega
 ·omega
theorem E5 {s:ByteArray} {i:Nat} (h:bT s i=3):oo s i=rf s i:=by
 unfold bT at h;unfold oo
 split at h
 ·split at h
  ·split at h
   ·simp[*]
   ·omega
  ·omega
 ·omega
theorem FU {s:ByteArray} {i:Nat} (h:b7 s i=true):wo s i=dg s i:=by
 unfold b7 at h;unfold wo dg
 by_cases h1:bt s i=33
 ·simp only[h1,if_true] at h ⊢;exact yD (by simpa using h)
 ·by_cases h2:aQ (bt s i)=true
  ·simp only[h1,h2,if_false,if_true] at h ⊢;exact yD (by simpa using h)
  ·simp only[h1,h2,if_false] at h ⊢;exact E5 (by simpa using h)
theorem FC {s:ByteArray} {i:Nat} (h:cP s i=true):wj s i=d9 s i:=by
 unfold cP at h;unfold wj d9
 by_cases h1:bt s i=43
 ·simp only[h1,if_true] at h ⊢;simp[fI] at h;simp[oU,h]
 ·by_cases h2:bt s i=45
  ·simp only[h2,if_true] at h ⊢;simp[gk] at h;simp[rg,h]
  ·simp only[h1,h2,if_false]
theorem yn (s:ByteArray) (b i:Nat) (w:World) (hB:s.size≤400∧i≤400) (hr:Rd w b s i) (kind:Int):Calls Tryz.prog 147 #[.pointer (some ⟨b,0,none⟩),.int .i64 kind] w (RP w b s (.tuple #[.agg (ml kind s i).arr,.bool (bx s i==3)]) (i+bx s i)):=by
 by_cases h0:aQ (bt s i)=true
 ·by_cases h1:c8 (bt s (i+1))=true
  ·by_cases h2:c8 (bt s (i+2))=true
   ·have e:bx s i=3:=by simp[bx,h0,h1,h2]
    have e2:ml kind s i=lU kind s i:=by simp[ml,h0,h1,h2]
    rw[e,e2];exact up s b i w hB hr kind h0 h1 h2
   ·have h2:c8 (bt s (i+2))=false:=by simpa using h2
    have e:bx s i=2:=by simp[bx,h0,h1,h2]
    have e2:ml kind s i=⟨kind,bt s i - 97,0,dw (bt s (i+1)),dC (bt s (i+1)),0,0⟩:=by simp[ml,h0,h1,h2]
    rw[e,e2];exact vG s b i w hB hr kind h0 h1 h2
  ·have h1:c8 (bt s (i+1))=false:=by simpa using h1
   have e:bx s i=1:=by simp[bx,h0,h1]
   have e2:ml kind s i=Fp:=by simp[ml,h0,h1]
   rw[e,e2];exact vB s b i w hB hr kind h0 h1
 ·have h0:aQ (bt s i)=false:=by simpa using h0
  have e:bx s i=0:=by simp[bx,h0]
  have e2:ml kind s i=Fp:=by simp[ml,h0]
  rw[e,e2];exact vk s b i w hB hr kind h0
theorem E4 (s:ByteArray) (b i:Nat) (w:World) (hB:s.size≤400∧i≤400) (hr:Rd w b s i):Calls Tryz.prog 148 #[.pointer (some ⟨b,0,none⟩)] w (RP w b s (.tuple #[.agg (oo s i).arr,.bool (bT s i==3)]) (i+bT s i)):=by
 by_cases h0:bc (bt s i)=true
 ·by_cases h1:gF (bt s (i+1))=true
  ·by_cases h2:bc (bt s (i+2))=true
   ·have e:bT s i=3:=by simp[bT,h0,h1,h2]
    have e2:oo s i=rf s i:=by simp[oo,h0,h1,h2]
    rw[e,e2];exact CS s b i w hB hr h0 h1 h2
   ·have h2:bc (bt s (i+2))=false:=by simpa using h2
    have e:bT s i=2:=by simp[bT,h0,h1,h2]
    have e2:oo s i=⟨3,0,bt s (i+1),dw (bt s i),dC (bt s i),0,0⟩:=by simp[oo,h0,h1,h2]
    rw[e,e2];exact DE s b i w hB hr h0 h1 h2
  ·have h1:gF (bt s (i+1))=false:=by simpa using h1
   have e:bT s i=1:=by simp[bT,h0,h1]
   have e2:oo s i=Fp:=by simp[oo,h0,h1]
   rw[e,e2];exact CN s b i w hB hr h0 h1
 ·have h0:bc (bt s i)=false:=by simpa using h0
  have e:bT s i=0:=by simp[bT,h0]
  have e2:oo s i=Fp:=by simp[oo,h0]
  rw[e,e2];exact Cg s b i w hB hr h0
theorem Ei (s:ByteArray) (b i:Nat) (w:World) (hB:s.size≤400∧i≤400) (hr:Rd w b s i):Calls Tryz.prog 149 #[.pointer (some ⟨b,0,none⟩)] w (RP w b s (.tuple #[.agg (oU s i).arr,.bool (fI s i)]) (i+cO s i)):=by
 by_cases h0:aQ (bt s i)=true
 ·by_cases h1:bc (bt s (i+1))=true
  ·have hj1:i+1<c9 s (i+1):=es _ _
   by_cases h2:bc (bt s (c9 s (i+1)))=true
   ·have hj2:c9 s (i+1)<c9 s (c9 s (i+1)):=es _ _
    have e:i+cO s i=c9 s (c9 s (i+1)):=by simp[cO,h0,h1,h2];omega
    have e2:oU s i=xD s i:=by simp[oU,h0,h1,h2]
    have e3:fI s i=true:=by simp[fI,h0,h1,h2]
    rw[e,e2,e3];exact Dg s b i w hB hr h0 h1 h2
   ·have h2:bc (bt s (c9 s (i+1)))=false:=by simpa using h2
    have e:i+cO s i=c9 s (i+1):=by simp[cO,h0,h1,h2];omega
    have e2:oU s i=⟨1,bt s i - 97,dw (bt s (i+1)),dC (bt s (i+1)),id (bt s (i+1+1)),0,0,0⟩:=by simp[oU,h0,h1,h2]
    have e3:fI s i=false:=by simp[fI,h0,h1,h2]
    rw[e,e2,e3];exact Dz s b i w hB hr h0 h1 h2
  ·have h1:bc (bt s (i+1))=false:=by simpa using h1
   have e:cO s i=1:=by simp[cO,h0,h1]
   have e2:oU s i=FY:=by simp[oU,h0,h1]
   have e3:fI s i=false:=by simp[fI,h0,h1]
   rw[e,e2,e3];exact Ce s b i w hB hr h0 h1
 ·have h0:aQ (bt s i)=false:=by simpa using h0
  have e:cO s i=0:=by simp[cO,h0]
  have e2:oU s i=FY:=by simp[oU,h0]
  have e3:fI s i=false:=by simp[fI,h0]
  rw[e,e2,e3];exact Do s b i w hB hr h0
theorem EB (s:ByteArray) (b i:Nat) (w:World) (hB:s.size≤400∧i≤400) (hr:Rd w b s i):Calls Tryz.prog 150 #[.pointer (some ⟨b,0,none⟩)] w (RP w b s (.tuple #[.agg (rg s i).arr,.bool (gk s i)]) (i+c7 s i)):=by
 by_cases h0:aQ (bt s i)=true
 ·by_cases h1:bc (bt s (i+1))=true
  ·have hj1:i+1<c9 s (i+1):=es _ _
   have e:i+c7 s i=c9 s (i+1):=by simp[c7,h0,h1];omega
   have e2:rg s i=vH s i:=by simp[rg,h0,h1]
   have e3:gk s i=true:=by simp[gk,h0,h1]
   rw[e,e2,e3];exact zm s b i w hB hr h0 h1
  ·have h1:bc (bt s (i+1))=false:=by simpa using h1
   have e:c7 s i=1:=by simp[c7,h0,h1]
   have e2:rg s i=⟨2,bt s i - 97,0,0,0,0,0,0⟩:=by simp[rg,h0,h1]
   have e3:gk s i=false:=by simp[gk,h0,h1]
   rw[e,e2,e3];exact zL s b i w hB hr h0 h1
 ·have h0:aQ (bt s i)=false:=by simpa using h0
  have e:c7 s i=0:=by simp[c7,h0]
  have e2:rg s i=FY:=by simp[rg,h0]
  have e3:gk s i=false:=by simp[gk,h0]
  rw[e,e2,e3];exact Bb s b i w hB hr h0
theorem uf (s:ByteArray) (b i:Nat) (w:World) (hB:s.size≤400∧i≤400) (hr:Rd w b s i):Calls Tryz.prog 141 #[.pointer (some ⟨b,0,none⟩)] w (RP w b s (.tuple #[.agg (wo s i).arr,.bool (b7 s i)]) (i+aG s i)):=by
 have hs:=hB.1
 by_cases h:bt s i=33
 ·have hlt:i<s.size:=dd (by omega)
  have e1:b7 s i=(bx s (i+1)==3):=by simp[b7,h]
  have e2:i+aG s i=i+1+bx s (i+1):=by simp[aG,h];omega
  have e3:wo s i=ml 2 s (i+1):=by simp[wo,h]
  rw[e1,e2,e3]
  exact CA s b i w hB hr h _ _ _ _ _ _ _ _ _ (fun W hW=>yn s b (i+1) W ⟨hs,by omega⟩ hW 2)
 ·by_cases h1:aQ (bt s i)=true
  ·have e1:b7 s i=(bx s i==3):=by simp[b7,h,h1]
   have e2:aG s i=bx s i:=by simp[aG,h,h1]
   have e3:wo s i=ml 1 s i:=by simp[wo,h,h1]
   rw[e1,e2,e3]
   exact BY s b i w hB hr h h1 _ _ _ _ _ _ _ _ _ (fun W hW=>yn s b i W hB hW 1)
  ·have h1:aQ (bt s i)=false:=by simpa using h1
   have e1:b7 s i=(bT s i==3):=by simp[b7,h,h1]
   have e2:aG s i=bT s i:=by simp[aG,h,h1]
   have e3:wo s i=oo s i:=by simp[wo,h,h1]
   rw[e1,e2,e3]
   exact Bn s b i w hB hr h h1 _ _ _ _ _ _ _ _ _ (fun W hW=>E4 s b i W hB hW)
theorem zc (s:ByteArray) (b i:Nat) (w:World) (hB:s.size≤400∧i≤400) (hr:Rd w b s i):Calls Tryz.prog 142 #[.pointer (some ⟨b,0,none⟩)] w (RP w b s (.tuple #[.agg (wj s i).arr,.bool (cP s i)]) (i+aT s i)):=by
 have hs:=hB.1
 by_cases h:bt s i=43
 ·have hlt:i<s.size:=dd (by omega)
  have e1:cP s i=fI s (i+1):=by simp[cP,h]
  have e2:i+aT s i=i+1+cO s (i+1):=by simp[aT,h];omega
  have e3:wj s i=oU s (i+1):=by simp[wj,h]
  rw[e1,e2,e3]
  exact BN s b i w hB hr h _ _ _ _ _ _ _ _ _ _ (fun W hW=>Ei s b (i+1) W ⟨hs,by omega⟩ hW)
 ·by_cases h1:bt s i=45
  ·have hlt:i<s.size:=dd (by omega)
   have e1:cP s i=gk s (i+1):=by simp[cP,h1]
   have e2:i+aT s i=i+1+c7 s (i+1):=by simp[aT,h1];omega
   have e3:wj s i=rg s (i+1):=by simp[wj,h1]
   rw[e1,e2,e3]
   exact Bp s b i w hB hr h1 _ _ _ _ _ _ _ _ _ _ (fun W hW=>EB s b (i+1) W ⟨hs,by omega⟩ hW)
  ·have e3:wj s i=⟨3,0,0,0,0,0,0,0⟩:=by simp[wj,h,h1]
   by_cases h2:bt s i=46
   ·have e1:cP s i=true:=by simp[cP,h2]
    have e2:aT s i=1:=by simp[aT,h2]
    rw[e1,e2,e3]
    exact CT s b i w hB hr h2
   ·have e1:cP s i=false:=by simp[cP,h,h1,h2]
    have e2:aT s i=0:=by simp[aT,h,h1,h2]
    rw[e1,e2,e3]
    exact De s b i w hB hr h h1 h2
end Go.Proofs.YthlhbjnkohinmaaGreat
