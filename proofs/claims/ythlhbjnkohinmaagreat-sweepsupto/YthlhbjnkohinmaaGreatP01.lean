import Derived.Test.YthlhbjnkohinmaaGreatP00
namespace Go.Proofs.YthlhbjnkohinmaaGreat
set_option maxRecDepth 100000
set_option maxHeartbeats 8000000
open Go.RowKit
theorem nc (s:ByteArray)(b i:Nat)(w:World)(hB:s.size≤400∧i≤400)(hr:Rd w b s i)(h:bd (bt s i)=true):Calls Tryz.prog 156 #[.pointer (some ⟨b,0,none⟩)] w (RP w b s (.tuple #[.agg #[.int .i64 (dw (bt s i)),.int .i64 (dC (bt s i)),.int .i64 (g9 (bt s (i+1)))],.bool true]) (c9 s i)):=by
 have hlt:=gj h
 have hs:=hB.1
 by_cases h1:bt s (i+1)=94
 ·have e1:g9 (bt s (i+1))=1:=by simp[g9,h1]
  have e2:c9 s i=i+2:=by simp[c9,fe,h1]
  rw[e1,e2];exact Ea s b i w hB hr h (by omega) h1
 ·by_cases h2:bt s (i+1)=126
  ·have e1:g9 (bt s (i+1))=-1:=by simp[g9,h2]
   have e2:c9 s i=i+2:=by simp[c9,fe,h2]
   rw[e1,e2];exact A7 s b i w hB hr h (by omega) h2
  ·have e1:g9 (bt s (i+1))=0:=by simp[g9,h1,h2]
   have e3:fe (bt s (i+1))=false:=by simp[fe,h1,h2]
   have e2:c9 s i=i+1:=by simp[c9,e3]
   rw[e1,e2];exact xf s b i w hB hr h (by omega) e3
theorem uh (s:ByteArray)(b i:Nat)(w:World)(hB:s.size≤400∧i≤400)(hr:Rd w b s i)(kind:Int)(h0:aR (bt s i)=false):Calls Tryz.prog 147 #[.pointer (some ⟨b,0,none⟩),.int .i64 kind] w (RP w b s (.tuple #[.agg #[.int .i64 0,.int .i64 0,.int .u8 0,.int .i64 0,.int .i64 0,.int .i64 0,.int .i64 0],.bool false]) (i)):=by
 have hl:=hr.lt
 have hne:w.heap.size≠b:=by omega
 have hs:=hB.1
 go_enter Tryz.func147,Tryz.ntmps147
 go_wp2_with fail
 go_at_call 152
 refine (nO s b i _ hB (hr.alloc _) h0).mono ?_
 rintro e w1 ⟨rfl,hr1,hg1⟩
 obtain⟨⟨hc1,hf1⟩,hn1,hzw1,hyw1,hxw1,hk1⟩:=nx hr1 hg1 (by omega)
 go_wp2
 refine bodyPost_ret (v:=.tuple #[.agg #[.int .i64 0,.int .i64 0,.int .u8 0,.int .i64 0,.int .i64 0,.int .i64 0,.int .i64 0],.bool false]) (aO Tryz.results147 rfl (bk 6 (bk 5 (bk 4 (bk 3 (bk 2 (bk 1 (bk 0 hk1.out))))))) Tryz.underlying206 rfl (by kernel_rfl) rfl) rfl ⟨rfl,?_,?_⟩
 ·with_reducible repeat' (first|assumption|refine Rd.alloc ?_ _|refine Rd.drewN ?_ _|refine Rd.step ?_|refine Rd.other ?_ ?_ _|(simp;omega))
 ·with_reducible repeat' (first|assumption|exact ag _ _|refine aj ?_ ?_ _|refine ab ?_ _|refine al ?_ _|refine ae ?_ (by assumption)|(right;simp;done)|(right;simp;omega)|(left;rfl))
theorem vX (s:ByteArray)(b i:Nat)(w:World)(hB:s.size≤400∧i≤400)(hr:Rd w b s i)(kind:Int)(h0:aR (bt s i)=true)(h1:c7 (bt s (i+1))=false):Calls Tryz.prog 147 #[.pointer (some ⟨b,0,none⟩),.int .i64 kind] w (RP w b s (.tuple #[.agg #[.int .i64 0,.int .i64 0,.int .u8 0,.int .i64 0,.int .i64 0,.int .i64 0,.int .i64 0],.bool false]) (i+1)):=by
 have hl:=hr.lt
 have hne:w.heap.size≠b:=by omega
 have hs:=hB.1
 have hlt:=dO h0
 go_enter Tryz.func147,Tryz.ntmps147
 go_wp2_with fail
 go_at_call 152
 refine (fB s b i _ hB (hr.alloc _) h0).mono ?_
 rintro e w1 ⟨rfl,hr1,hg1⟩
 obtain⟨⟨hc1,hf1⟩,hn1,hzw1,hyw1,hxw1,hk1⟩:=nx hr1 hg1 (by omega)
 go_wp2_with fail
 go_at_call 153
 refine (yT s b (i+1) _ ⟨hs,by omega⟩ (by with_reducible repeat' (first|assumption|refine Rd.alloc ?_ _|refine Rd.drewN ?_ _|refine Rd.step ?_|refine Rd.other ?_ ?_ _|(simp;omega))) h1).mono ?_
 rintro e w2 ⟨rfl,hr2,hg2⟩
 obtain⟨hc2,hf2⟩:=cL hg2
 have hn2:w2.heap.size≠b:=by have:=hr2.lt;omega
 have hzw2:w.heap.size<w2.heap.size:=by have:=hg2.size;(try simp at this);omega
 have hyw2:=Nat.le_of_lt hzw2
 have hxw2:=Nat.ne_of_lt hzw2
 have hk2:=af ((hg2.block w.heap.size (by (try simp);omega) (by simp;omega)).trans hk1.out)
 go_wp2
 refine bodyPost_ret (v:=.tuple #[.agg #[.int .i64 0,.int .i64 0,.int .u8 0,.int .i64 0,.int .i64 0,.int .i64 0,.int .i64 0],.bool false]) (aO Tryz.results147 rfl ((Below.heap_alloc _ _ _ (by simp;omega)).trans (bk 6 (bk 5 (bk 4 (bk 3 (bk 2 (bk 1 (bk 0 hk2.out)))))))) Tryz.underlying206 rfl (by kernel_rfl) rfl) rfl ⟨rfl,?_,?_⟩
 ·with_reducible repeat' (first|assumption|refine Rd.alloc ?_ _|refine Rd.drewN ?_ _|refine Rd.step ?_|refine Rd.other ?_ ?_ _|(simp;omega))
 ·with_reducible repeat' (first|assumption|exact ag _ _|refine aj ?_ ?_ _|refine ab ?_ _|refine al ?_ _|refine ae ?_ (by assumption)|(right;simp;done)|(right;simp;omega)|(left;rfl))
theorem ut (s:ByteArray)(b i:Nat)(w:World)(hB:s.size≤400∧i≤400)(hr:Rd w b s i)(kind:Int)(h0:aR (bt s i)=true)(h1:c7 (bt s (i+1))=true)(h2:c7 (bt s (i+2))=false):Calls Tryz.prog 147 #[.pointer (some ⟨b,0,none⟩),.int .i64 kind] w (RP w b s (.tuple #[.agg #[.int .i64 kind,.int .i64 (bt s i - 97),.int .u8 0,.int .i64 (dw (bt s (i+1))),.int .i64 (dC (bt s (i+1))),.int .i64 0,.int .i64 0],.bool false]) (i+2)):=by
 have hl:=hr.lt
 have hne:w.heap.size≠b:=by omega
 have hs:=hB.1
 have hlt:=dO h0
 have hlt1:=lx h1
 go_enter Tryz.func147,Tryz.ntmps147
 go_wp2_with fail
 go_at_call 152
 refine (fB s b i _ hB (hr.alloc _) h0).mono ?_
 rintro e w1 ⟨rfl,hr1,hg1⟩
 obtain⟨⟨hc1,hf1⟩,hn1,hzw1,hyw1,hxw1,hk1⟩:=nx hr1 hg1 (by omega)
 go_wp2_with fail
 go_at_call 153
 refine (qa s b (i+1) _ ⟨hs,by omega⟩ (by with_reducible repeat' (first|assumption|refine Rd.alloc ?_ _|refine Rd.drewN ?_ _|refine Rd.step ?_|refine Rd.other ?_ ?_ _|(simp;omega))) h1).mono ?_
 rintro e w2 ⟨rfl,hr2,hg2⟩
 obtain⟨hc2,hf2⟩:=cL hg2
 have hn2:w2.heap.size≠b:=by have:=hr2.lt;omega
 have hzw2:w.heap.size<w2.heap.size:=by have:=hg2.size;(try simp at this);omega
 have hyw2:=Nat.le_of_lt hzw2
 have hxw2:=Nat.ne_of_lt hzw2
 have hk2:=af ((hg2.block w.heap.size (by (try simp);omega) (by simp;omega)).trans hk1.out)
 go_wp2_with fail
 go_at_call 153
 refine (yT s b (i+2) _ ⟨hs,by omega⟩ (by with_reducible repeat' (first|assumption|refine Rd.alloc ?_ _|refine Rd.drewN ?_ _|refine Rd.step ?_|refine Rd.other ?_ ?_ _|(simp;omega))) h2).mono ?_
 rintro e w3 ⟨rfl,hr3,hg3⟩
 obtain⟨hc3,hf3⟩:=cL hg3
 have hn3:w3.heap.size≠b:=by have:=hr3.lt;omega
 have hzw3:w.heap.size<w3.heap.size:=by have:=hg3.size;(try simp at this);omega
 have hyw3:=Nat.le_of_lt hzw3
 have hxw3:=Nat.ne_of_lt hzw3
 have hzw23:w2.heap.size<w3.heap.size:=by have:=hg3.size;(try simp at this);omega
 have hyw23:=Nat.le_of_lt hzw23
 have hxw23:=Nat.ne_of_lt hzw23
 have hk3:=af ((hg3.block w.heap.size (by (try simp);omega) (by simp;omega)).trans ((Below.heap_alloc _ _ _ hzw2).trans hk2.out))
 go_wp2
 refine bodyPost_ret (v:=.tuple #[.agg #[.int .i64 kind,.int .i64 (bt s i - 97),.int .u8 0,.int .i64 (dw (bt s (i+1))),.int .i64 (dC (bt s (i+1))),.int .i64 0,.int .i64 0],.bool false]) (aO Tryz.results147 rfl ((Below.heap_alloc _ _ _ (by simp;omega)).trans (bk 6 (bk 5 (bk 4 (bk 3 (bk 2 (bk 1 (bk 0 hk3.out)))))))) Tryz.underlying206 rfl (by kernel_rfl) rfl) rfl ⟨rfl,?_,?_⟩
 ·with_reducible repeat' (first|assumption|refine Rd.alloc ?_ _|refine Rd.drewN ?_ _|refine Rd.step ?_|refine Rd.other ?_ ?_ _|(simp;omega))
 ·with_reducible repeat' (first|assumption|exact ag _ _|refine aj ?_ ?_ _|refine ab ?_ _|refine al ?_ _|refine ae ?_ (by assumption)|(right;simp;done)|(right;simp;omega)|(left;rfl))
theorem tY (s:ByteArray)(b i:Nat)(w:World)(hB:s.size≤400∧i≤400)(hr:Rd w b s i)(kind:Int)(h0:aR (bt s i)=true)(h1:c7 (bt s (i+1))=true)(h2:c7 (bt s (i+2))=true):Calls Tryz.prog 147 #[.pointer (some ⟨b,0,none⟩),.int .i64 kind] w (RP w b s (.tuple #[.agg #[.int .i64 kind,.int .i64 (bt s i - 97),.int .u8 0,.int .i64 (dw (bt s (i+1))),.int .i64 (dC (bt s (i+1))),.int .i64 (dw (bt s (i+2))),.int .i64 (dC (bt s (i+2)))],.bool true]) (i+3)):=by
 have hl:=hr.lt
 have hne:w.heap.size≠b:=by omega
 have hs:=hB.1
 have hlt:=dO h0
 have hlt1:=lx h1
 go_enter Tryz.func147,Tryz.ntmps147
 go_wp2_with fail
 go_at_call 152
 refine (fB s b i _ hB (hr.alloc _) h0).mono ?_
 rintro e w1 ⟨rfl,hr1,hg1⟩
 obtain⟨⟨hc1,hf1⟩,hn1,hzw1,hyw1,hxw1,hk1⟩:=nx hr1 hg1 (by omega)
 go_wp2_with fail
 go_at_call 153
 refine (qa s b (i+1) _ ⟨hs,by omega⟩ (by with_reducible repeat' (first|assumption|refine Rd.alloc ?_ _|refine Rd.drewN ?_ _|refine Rd.step ?_|refine Rd.other ?_ ?_ _|(simp;omega))) h1).mono ?_
 rintro e w2 ⟨rfl,hr2,hg2⟩
 obtain⟨hc2,hf2⟩:=cL hg2
 have hn2:w2.heap.size≠b:=by have:=hr2.lt;omega
 have hzw2:w.heap.size<w2.heap.size:=by have:=hg2.size;(try simp at this);omega
 have hyw2:=Nat.le_of_lt hzw2
 have hxw2:=Nat.ne_of_lt hzw2
 have hk2:=af ((hg2.block w.heap.size (by (try simp);omega) (by simp;omega)).trans hk1.out)
 go_wp2_with fail
 go_at_call 153
 refine (qa s b (i+2) _ ⟨hs,by omega⟩ (by with_reducible repeat' (first|assumption|refine Rd.alloc ?_ _|refine Rd.drewN ?_ _|refine Rd.step ?_|refine Rd.other ?_ ?_ _|(simp;omega))) h2).mono ?_
 rintro e w3 ⟨rfl,hr3,hg3⟩
 obtain⟨hc3,hf3⟩:=cL hg3
 have hn3:w3.heap.size≠b:=by have:=hr3.lt;omega
 have hzw3:w.heap.size<w3.heap.size:=by have:=hg3.size;(try simp at this);omega
 have hyw3:=Nat.le_of_lt hzw3
 have hxw3:=Nat.ne_of_lt hzw3
 have hzw23:w2.heap.size<w3.heap.size:=by have:=hg3.size;(try simp at this);omega
 have hyw23:=Nat.le_of_lt hzw23
 have hxw23:=Nat.ne_of_lt hzw23
 have hk3:=af ((hg3.block w.heap.size (by (try simp);omega) (by simp;omega)).trans ((Below.heap_alloc _ _ _ hzw2).trans hk2.out))
 go_wp2
 refine bodyPost_ret (v:=.tuple #[.agg #[.int .i64 kind,.int .i64 (bt s i - 97),.int .u8 0,.int .i64 (dw (bt s (i+1))),.int .i64 (dC (bt s (i+1))),.int .i64 (dw (bt s (i+2))),.int .i64 (dC (bt s (i+2)))],.bool true]) (aO Tryz.results147 rfl ((Below.heap_alloc _ _ _ (by simp;omega)).trans (bk 6 (bk 5 (bk 4 (bk 3 (bk 2 (bk 1 (bk 0 hk3.out)))))))) Tryz.underlying206 rfl (by kernel_rfl) rfl) rfl ⟨rfl,?_,?_⟩
 ·with_reducible repeat' (first|assumption|refine Rd.alloc ?_ _|refine Rd.drewN ?_ _|refine Rd.step ?_|refine Rd.other ?_ ?_ _|(simp;omega))
 ·with_reducible repeat' (first|assumption|exact ag _ _|refine aj ?_ ?_ _|refine ab ?_ _|refine al ?_ _|refine ae ?_ (by assumption)|(right;simp;done)|(right;simp;omega)|(left;rfl))
theorem DJ (s:ByteArray)(b i:Nat)(w:World)(hB:s.size≤400∧i≤400)(hr:Rd w b s i)(h0:bd (bt s i)=false):Calls Tryz.prog 148 #[.pointer (some ⟨b,0,none⟩)] w (RP w b s (.tuple #[.agg #[.int .i64 0,.int .i64 0,.int .u8 0,.int .i64 0,.int .i64 0,.int .i64 0,.int .i64 0],.bool false]) (i)):=by
 have hl:=hr.lt
 have hne:w.heap.size≠b:=by omega
 have hs:=hB.1
 go_enter Tryz.func148,Tryz.ntmps148
 go_wp2_with fail
 go_at_call 154
 refine (jZ s b i _ hB (hr.alloc _) h0).mono ?_
 rintro e w1 ⟨rfl,hr1,hg1⟩
 obtain⟨⟨hc1,hf1⟩,hn1,hzw1,hyw1,hxw1,hk1⟩:=nx hr1 hg1 (by omega)
 go_wp2
 refine bodyPost_ret (v:=.tuple #[.agg #[.int .i64 0,.int .i64 0,.int .u8 0,.int .i64 0,.int .i64 0,.int .i64 0,.int .i64 0],.bool false]) (aO Tryz.results148 rfl ((Below.heap_alloc _ _ _ (by simp;omega)).trans (bk 6 (bk 5 (bk 4 (bk 3 (bk 2 (bk 1 (bk 0 hk1.out)))))))) Tryz.underlying206 rfl (by kernel_rfl) rfl) rfl ⟨rfl,?_,?_⟩
 ·with_reducible repeat' (first|assumption|refine Rd.alloc ?_ _|refine Rd.drewN ?_ _|refine Rd.step ?_|refine Rd.other ?_ ?_ _|(simp;omega))
 ·with_reducible repeat' (first|assumption|exact ag _ _|refine aj ?_ ?_ _|refine ab ?_ _|refine al ?_ _|refine ae ?_ (by assumption)|(right;simp;done)|(right;simp;omega)|(left;rfl))
theorem DM (s:ByteArray)(b i:Nat)(w:World)(hB:s.size≤400∧i≤400)(hr:Rd w b s i)(h0:bd (bt s i)=true)(h1:gJ (bt s (i+1))=false):Calls Tryz.prog 148 #[.pointer (some ⟨b,0,none⟩)] w (RP w b s (.tuple #[.agg #[.int .i64 0,.int .i64 0,.int .u8 0,.int .i64 0,.int .i64 0,.int .i64 0,.int .i64 0],.bool false]) (i+1)):=by
 have hl:=hr.lt
 have hne:w.heap.size≠b:=by omega
 have hs:=hB.1
 have hlt:=gj h0
 go_enter Tryz.func148,Tryz.ntmps148
 go_wp2_with fail
 go_at_call 154
 refine (eA s b i _ hB (hr.alloc _) h0).mono ?_
 rintro e w1 ⟨rfl,hr1,hg1⟩
 obtain⟨⟨hc1,hf1⟩,hn1,hzw1,hyw1,hxw1,hk1⟩:=nx hr1 hg1 (by omega)
 go_wp2_with fail
 go_at_call 155
 refine (E8 s b (i+1) _ ⟨hs,by omega⟩ (by with_reducible repeat' (first|assumption|refine Rd.alloc ?_ _|refine Rd.drewN ?_ _|refine Rd.step ?_|refine Rd.other ?_ ?_ _|(simp;omega))) h1).mono ?_
 rintro e w2 ⟨rfl,hr2,hg2⟩
 obtain⟨hc2,hf2⟩:=cL hg2
 have hn2:w2.heap.size≠b:=by have:=hr2.lt;omega
 have hzw2:w.heap.size<w2.heap.size:=by have:=hg2.size;(try simp at this);omega
 have hyw2:=Nat.le_of_lt hzw2
 have hxw2:=Nat.ne_of_lt hzw2
 have hzw12:w1.heap.size<w2.heap.size:=by have:=hg2.size;(try simp at this);omega
 have hyw12:=Nat.le_of_lt hzw12
 have hxw12:=Nat.ne_of_lt hzw12
 have hk2:=af ((hg2.block w.heap.size (by (try simp);omega) (by simp;omega)).trans ((Below.heap_alloc _ _ _ hzw1).trans hk1.out))
 go_wp2
 refine bodyPost_ret (v:=.tuple #[.agg #[.int .i64 0,.int .i64 0,.int .u8 0,.int .i64 0,.int .i64 0,.int .i64 0,.int .i64 0],.bool false]) (aO Tryz.results148 rfl (bk 6 (bk 5 (bk 4 (bk 3 (bk 2 (bk 1 (bk 0 hk2.out))))))) Tryz.underlying206 rfl (by kernel_rfl) rfl) rfl ⟨rfl,?_,?_⟩
 ·with_reducible repeat' (first|assumption|refine Rd.alloc ?_ _|refine Rd.drewN ?_ _|refine Rd.step ?_|refine Rd.other ?_ ?_ _|(simp;omega))
 ·with_reducible repeat' (first|assumption|exact ag _ _|refine aj ?_ ?_ _|refine ab ?_ _|refine al ?_ _|refine ae ?_ (by assumption)|(right;simp;done)|(right;simp;omega)|(left;rfl))
theorem BW (s:ByteArray)(b i:Nat)(w:World)(hB:s.size≤400∧i≤400)(hr:Rd w b s i)(h0:bd (bt s i)=true)(h1:gJ (bt s (i+1))=true)(h2:bd (bt s (i+2))=false):Calls Tryz.prog 148 #[.pointer (some ⟨b,0,none⟩)] w (RP w b s (.tuple #[.agg #[.int .i64 3,.int .i64 0,.int .u8 (bt s (i+1)),.int .i64 (dw (bt s i)),.int .i64 (dC (bt s i)),.int .i64 0,.int .i64 0],.bool false]) (i+2)):=by
 have hl:=hr.lt
 have hne:w.heap.size≠b:=by omega
 have hs:=hB.1
 have hlt:=gj h0
 have hlt1:=nH h1
 go_enter Tryz.func148,Tryz.ntmps148
 go_wp2_with fail
 go_at_call 154
 refine (eA s b i _ hB (hr.alloc _) h0).mono ?_
 rintro e w1 ⟨rfl,hr1,hg1⟩
 obtain⟨⟨hc1,hf1⟩,hn1,hzw1,hyw1,hxw1,hk1⟩:=nx hr1 hg1 (by omega)
 go_wp2_with fail
 go_at_call 155
 refine (t7 s b (i+1) _ ⟨hs,by omega⟩ (by with_reducible repeat' (first|assumption|refine Rd.alloc ?_ _|refine Rd.drewN ?_ _|refine Rd.step ?_|refine Rd.other ?_ ?_ _|(simp;omega))) h1).mono ?_
 rintro e w2 ⟨rfl,hr2,hg2⟩
 obtain⟨hc2,hf2⟩:=cL hg2
 have hn2:w2.heap.size≠b:=by have:=hr2.lt;omega
 have hzw2:w.heap.size<w2.heap.size:=by have:=hg2.size;(try simp at this);omega
 have hyw2:=Nat.le_of_lt hzw2
 have hxw2:=Nat.ne_of_lt hzw2
 have hzw12:w1.heap.size<w2.heap.size:=by have:=hg2.size;(try simp at this);omega
 have hyw12:=Nat.le_of_lt hzw12
 have hxw12:=Nat.ne_of_lt hzw12
 have hk2:=af ((hg2.block w.heap.size (by (try simp);omega) (by simp;omega)).trans ((Below.heap_alloc _ _ _ hzw1).trans hk1.out))
 go_wp2_with fail
 go_at_call 154
 refine (jZ s b (i+2) _ ⟨hs,by omega⟩ (by with_reducible repeat' (first|assumption|refine Rd.alloc ?_ _|refine Rd.drewN ?_ _|refine Rd.step ?_|refine Rd.other ?_ ?_ _|(simp;omega))) h2).mono ?_
 rintro e w3 ⟨rfl,hr3,hg3⟩
 obtain⟨hc3,hf3⟩:=cL hg3
 have hn3:w3.heap.size≠b:=by have:=hr3.lt;omega
 have hzw3:w.heap.size<w3.heap.size:=by have:=hg3.size;(try simp at this);omega
 have hyw3:=Nat.le_of_lt hzw3
 have hxw3:=Nat.ne_of_lt hzw3
 have hzw13:w1.heap.size<w3.heap.size:=by have:=hg3.size;(try simp at this);omega
 have hyw13:=Nat.le_of_lt hzw13
 have hxw13:=Nat.ne_of_lt hzw13
 have hk3:=af ((hg3.block w.heap.size (by (try simp);omega) (by simp;omega)).trans hk2.out)
 go_wp2
 refine bodyPost_ret (v:=.tuple #[.agg #[.int .i64 3,.int .i64 0,.int .u8 (bt s (i+1)),.int .i64 (dw (bt s i)),.int .i64 (dC (bt s i)),.int .i64 0,.int .i64 0],.bool false]) (aO Tryz.results148 rfl ((Below.heap_alloc _ _ _ (by simp;omega)).trans (bk 6 (bk 5 (bk 4 (bk 3 (bk 2 (bk 1 (bk 0 hk3.out)))))))) Tryz.underlying206 rfl (by kernel_rfl) rfl) rfl ⟨rfl,?_,?_⟩
 ·with_reducible repeat' (first|assumption|refine Rd.alloc ?_ _|refine Rd.drewN ?_ _|refine Rd.step ?_|refine Rd.other ?_ ?_ _|(simp;omega))
 ·with_reducible repeat' (first|assumption|exact ag _ _|refine aj ?_ ?_ _|refine ab ?_ _|refine al ?_ _|refine ae ?_ (by assumption)|(right;simp;done)|(right;simp;omega)|(left;rfl))
theorem Cm (s:ByteArray)(b i:Nat)(w:World)(hB:s.size≤400∧i≤400)(hr:Rd w b s i)(h0:bd (bt s i)=true)(h1:gJ (bt s (i+1))=true)(h2:bd (bt s (i+2))=true):Calls Tryz.prog 148 #[.pointer (some ⟨b,0,none⟩)] w (RP w b s (.tuple #[.agg #[.int .i64 3,.int .i64 0,.int .u8 (bt s (i+1)),.int .i64 (dw (bt s i)),.int .i64 (dC (bt s i)),.int .i64 (dw (bt s (i+2))),.int .i64 (dC (bt s (i+2)))],.bool true]) (i+3)):=by
 have hl:=hr.lt
 have hne:w.heap.size≠b:=by omega
 have hs:=hB.1
 have hlt:=gj h0
 have hlt1:=nH h1
 go_enter Tryz.func148,Tryz.ntmps148
 go_wp2_with fail
 go_at_call 154
 refine (eA s b i _ hB (hr.alloc _) h0).mono ?_
 rintro e w1 ⟨rfl,hr1,hg1⟩
 obtain⟨⟨hc1,hf1⟩,hn1,hzw1,hyw1,hxw1,hk1⟩:=nx hr1 hg1 (by omega)
 go_wp2_with fail
 go_at_call 155
 refine (t7 s b (i+1) _ ⟨hs,by omega⟩ (by with_reducible repeat' (first|assumption|refine Rd.alloc ?_ _|refine Rd.drewN ?_ _|refine Rd.step ?_|refine Rd.other ?_ ?_ _|(simp;omega))) h1).mono ?_
 rintro e w2 ⟨rfl,hr2,hg2⟩
 obtain⟨hc2,hf2⟩:=cL hg2
 have hn2:w2.heap.size≠b:=by have:=hr2.lt;omega
 have hzw2:w.heap.size<w2.heap.size:=by have:=hg2.size;(try simp at this);omega
 have hyw2:=Nat.le_of_lt hzw2
 have hxw2:=Nat.ne_of_lt hzw2
 have hzw12:w1.heap.size<w2.heap.size:=by have:=hg2.size;(try simp at this);omega
 have hyw12:=Nat.le_of_lt hzw12
 have hxw12:=Nat.ne_of_lt hzw12
 have hk2:=af ((hg2.block w.heap.size (by (try simp);omega) (by simp;omega)).trans ((Below.heap_alloc _ _ _ hzw1).trans hk1.out))
 go_wp2_with fail
 go_at_call 154
 refine (eA s b (i+2) _ ⟨hs,by omega⟩ (by with_reducible repeat' (first|assumption|refine Rd.alloc ?_ _|refine Rd.drewN ?_ _|refine Rd.step ?_|refine Rd.other ?_ ?_ _|(simp;omega))) h2).mono ?_
 rintro e w3 ⟨rfl,hr3,hg3⟩
 obtain⟨hc3,hf3⟩:=cL hg3
 have hn3:w3.heap.size≠b:=by have:=hr3.lt;omega
 have hzw3:w.heap.size<w3.heap.size:=by have:=hg3.size;(try simp at this);omega
 have hyw3:=Nat.le_of_lt hzw3
 have hxw3:=Nat.ne_of_lt hzw3
 have hzw13:w1.heap.size<w3.heap.size:=by have:=hg3.size;(try simp at this);omega
 have hyw13:=Nat.le_of_lt hzw13
 have hxw13:=Nat.ne_of_lt hzw13
 have hk3:=af ((hg3.block w.heap.size (by (try simp);omega) (by simp;omega)).trans hk2.out)
 go_wp2
 refine bodyPost_ret (v:=.tuple #[.agg #[.int .i64 3,.int .i64 0,.int .u8 (bt s (i+1)),.int .i64 (dw (bt s i)),.int .i64 (dC (bt s i)),.int .i64 (dw (bt s (i+2))),.int .i64 (dC (bt s (i+2)))],.bool true]) (aO Tryz.results148 rfl ((Below.heap_alloc _ _ _ (by simp;omega)).trans (bk 6 (bk 5 (bk 4 (bk 3 (bk 2 (bk 1 (bk 0 hk3.out)))))))) Tryz.underlying206 rfl (by kernel_rfl) rfl) rfl ⟨rfl,?_,?_⟩
 ·with_reducible repeat' (first|assumption|refine Rd.alloc ?_ _|refine Rd.drewN ?_ _|refine Rd.step ?_|refine Rd.other ?_ ?_ _|(simp;omega))
 ·with_reducible repeat' (first|assumption|exact ag _ _|refine aj ?_ ?_ _|refine ab ?_ _|refine al ?_ _|refine ae ?_ (by assumption)|(right;simp;done)|(right;simp;omega)|(left;rfl))
theorem AM (s:ByteArray)(b i:Nat)(w:World)(hB:s.size≤400∧i≤400)(hr:Rd w b s i)(h0:aR (bt s i)=false):Calls Tryz.prog 150 #[.pointer (some ⟨b,0,none⟩)] w (RP w b s (.tuple #[.agg #[.int .i64 0,.int .i64 0,.int .i64 0,.int .i64 0,.int .i64 0,.int .i64 0,.int .i64 0,.int .i64 0],.bool false]) (i)):=by
 have hl:=hr.lt
 have hne:w.heap.size≠b:=by omega
 have hs:=hB.1
 go_enter Tryz.func150,Tryz.ntmps150
 go_wp2_with fail
 go_at_call 152
 refine (nO s b i _ hB (hr.alloc _) h0).mono ?_
 rintro e w1 ⟨rfl,hr1,hg1⟩
 obtain⟨⟨hc1,hf1⟩,hn1,hzw1,hyw1,hxw1,hk1⟩:=nx hr1 hg1 (by omega)
 go_wp2
 refine bodyPost_ret (v:=.tuple #[.agg #[.int .i64 0,.int .i64 0,.int .i64 0,.int .i64 0,.int .i64 0,.int .i64 0,.int .i64 0,.int .i64 0],.bool false]) (aO Tryz.results150 rfl (bk 7 (bk 6 (bk 5 (bk 4 (bk 3 (bk 2 (bk 1 (bk 0 hk1.out)))))))) Tryz.underlying219 rfl (by kernel_rfl) rfl) rfl ⟨rfl,?_,?_⟩
 ·with_reducible repeat' (first|assumption|refine Rd.alloc ?_ _|refine Rd.drewN ?_ _|refine Rd.step ?_|refine Rd.other ?_ ?_ _|(simp;omega))
 ·with_reducible repeat' (first|assumption|exact ag _ _|refine aj ?_ ?_ _|refine ab ?_ _|refine al ?_ _|refine ae ?_ (by assumption)|(right;simp;done)|(right;simp;omega)|(left;rfl))
theorem At (s:ByteArray)(b i:Nat)(w:World)(hB:s.size≤400∧i≤400)(hr:Rd w b s i)(h0:aR (bt s i)=true)(h1:bd (bt s (i+1))=false):Calls Tryz.prog 150 #[.pointer (some ⟨b,0,none⟩)] w (RP w b s (.tuple #[.agg #[.int .i64 2,.int .i64 (bt s i - 97),.int .i64 0,.int .i64 0,.int .i64 0,.int .i64 0,.int .i64 0,.int .i64 0],.bool false]) (i+1)):=by
 have hl:=hr.lt
 have hne:w.heap.size≠b:=by omega
 have hs:=hB.1
 have hlt:=dO h0
 go_enter Tryz.func150,Tryz.ntmps150
 go_wp2_with fail
 go_at_call 152
 refine (fB s b i _ hB (hr.alloc _) h0).mono ?_
 rintro e w1 ⟨rfl,hr1,hg1⟩
 obtain⟨⟨hc1,hf1⟩,hn1,hzw1,hyw1,hxw1,hk1⟩:=nx hr1 hg1 (by omega)
 go_wp2_with fail
 go_at_call 156
 refine (tI s b (i+1) _ ⟨hs,by omega⟩ (by with_reducible repeat' (first|assumption|refine Rd.alloc ?_ _|refine Rd.drewN ?_ _|refine Rd.step ?_|refine Rd.other ?_ ?_ _|(simp;omega))) h1).mono ?_
 rintro e w2 ⟨rfl,hr2,hg2⟩
 obtain⟨hc2,hf2⟩:=cL hg2
 have hn2:w2.heap.size≠b:=by have:=hr2.lt;omega
 have hzw2:w.heap.size<w2.heap.size:=by have:=hg2.size;(try simp at this);omega
 have hyw2:=Nat.le_of_lt hzw2
 have hxw2:=Nat.ne_of_lt hzw2
 have hk2:=af ((hg2.block w.heap.size (by (try simp);omega) (by simp;omega)).trans hk1.out)
 go_wp2
 refine bodyPost_ret (v:=.tuple #[.agg #[.int .i64 2,.int .i64 (bt s i - 97),.int .i64 0,.int .i64 0,.int .i64 0,.int .i64 0,.int .i64 0,.int .i64 0],.bool false]) (aO Tryz.results150 rfl ((Below.heap_alloc _ _ _ (by simp;omega)).trans (bk 7 (bk 6 (bk 5 (bk 4 (bk 3 (bk 2 (bk 1 (bk 0 hk2.out))))))))) Tryz.underlying219 rfl (by kernel_rfl) rfl) rfl ⟨rfl,?_,?_⟩
 ·with_reducible repeat' (first|assumption|refine Rd.alloc ?_ _|refine Rd.drewN ?_ _|refine Rd.step ?_|refine Rd.other ?_ ?_ _|(simp;omega))
 ·with_reducible repeat' (first|assumption|exact ag _ _|refine aj ?_ ?_ _|refine ab ?_ _|refine al ?_ _|refine ae ?_ (by assumption)|(right;simp;done)|(right;simp;omega)|(left;rfl))
theorem zl (s:ByteArray)(b i:Nat)(w:World)(hB:s.size≤400∧i≤400)(hr:Rd w b s i)(h0:aR (bt s i)=true)(h1:bd (bt s (i+1))=true):Calls Tryz.prog 150 #[.pointer (some ⟨b,0,none⟩)] w (RP w b s (.tuple #[.agg #[.int .i64 2,.int .i64 (bt s i - 97),.int .i64 (dw (bt s (i+1))),.int .i64 (dC (bt s (i+1))),.int .i64 (g9 (bt s (i+1+1))),.int .i64 0,.int .i64 0,.int .i64 0],.bool true]) (c9 s (i+1))):=by
 have hl:=hr.lt
 have hne:w.heap.size≠b:=by omega
 have hs:=hB.1
 have hlt:=dO h0
 go_enter Tryz.func150,Tryz.ntmps150
 go_wp2_with fail
 go_at_call 152
 refine (fB s b i _ hB (hr.alloc _) h0).mono ?_
 rintro e w1 ⟨rfl,hr1,hg1⟩
 obtain⟨⟨hc1,hf1⟩,hn1,hzw1,hyw1,hxw1,hk1⟩:=nx hr1 hg1 (by omega)
 go_wp2_with fail
 go_at_call 156
 refine (nc s b (i+1) _ ⟨hs,by omega⟩ (by with_reducible repeat' (first|assumption|refine Rd.alloc ?_ _|refine Rd.drewN ?_ _|refine Rd.step ?_|refine Rd.other ?_ ?_ _|(simp;omega))) h1).mono ?_
 rintro e w2 ⟨rfl,hr2,hg2⟩
 obtain⟨hc2,hf2⟩:=cL hg2
 have hn2:w2.heap.size≠b:=by have:=hr2.lt;omega
 have hzw2:w.heap.size<w2.heap.size:=by have:=hg2.size;(try simp at this);omega
 have hyw2:=Nat.le_of_lt hzw2
 have hxw2:=Nat.ne_of_lt hzw2
 have hk2:=af ((hg2.block w.heap.size (by (try simp);omega) (by simp;omega)).trans hk1.out)
 go_wp2
 refine bodyPost_ret (v:=.tuple #[.agg #[.int .i64 2,.int .i64 (bt s i - 97),.int .i64 (dw (bt s (i+1))),.int .i64 (dC (bt s (i+1))),.int .i64 (g9 (bt s (i+1+1))),.int .i64 0,.int .i64 0,.int .i64 0],.bool true]) (aO Tryz.results150 rfl ((Below.heap_alloc _ _ _ (by simp;omega)).trans (bk 7 (bk 6 (bk 5 (bk 4 (bk 3 (bk 2 (bk 1 (bk 0 hk2.out))))))))) Tryz.underlying219 rfl (by kernel_rfl) rfl) rfl ⟨rfl,?_,?_⟩
 ·with_reducible repeat' (first|assumption|refine Rd.alloc ?_ _|refine Rd.drewN ?_ _|refine Rd.step ?_|refine Rd.other ?_ ?_ _|(simp;omega))
 ·with_reducible repeat' (first|assumption|exact ag _ _|refine aj ?_ ?_ _|refine ab ?_ _|refine al ?_ _|refine ae ?_ (by assumption)|(right;simp;done)|(right;simp;omega)|(left;rfl))
theorem DK (s:ByteArray)(b i:Nat)(w:World)(hB:s.size≤400∧i≤400)(hr:Rd w b s i)(h0:aR (bt s i)=false):Calls Tryz.prog 149 #[.pointer (some ⟨b,0,none⟩)] w (RP w b s (.tuple #[.agg #[.int .i64 0,.int .i64 0,.int .i64 0,.int .i64 0,.int .i64 0,.int .i64 0,.int .i64 0,.int .i64 0],.bool false]) (i)):=by
 have hl:=hr.lt
 have hne:w.heap.size≠b:=by omega
 have hs:=hB.1
 go_enter Tryz.func149,Tryz.ntmps149
 go_wp2_with fail
 go_at_call 152
 refine (nO s b i _ hB (hr.alloc _) h0).mono ?_
 rintro e w1 ⟨rfl,hr1,hg1⟩
 obtain⟨⟨hc1,hf1⟩,hn1,hzw1,hyw1,hxw1,hk1⟩:=nx hr1 hg1 (by omega)
 go_wp2
 refine bodyPost_ret (v:=.tuple #[.agg #[.int .i64 0,.int .i64 0,.int .i64 0,.int .i64 0,.int .i64 0,.int .i64 0,.int .i64 0,.int .i64 0],.bool false]) (aO Tryz.results149 rfl (bk 7 (bk 6 (bk 5 (bk 4 (bk 3 (bk 2 (bk 1 (bk 0 hk1.out)))))))) Tryz.underlying219 rfl (by kernel_rfl) rfl) rfl ⟨rfl,?_,?_⟩
 ·with_reducible repeat' (first|assumption|refine Rd.alloc ?_ _|refine Rd.drewN ?_ _|refine Rd.step ?_|refine Rd.other ?_ ?_ _|(simp;omega))
 ·with_reducible repeat' (first|assumption|exact ag _ _|refine aj ?_ ?_ _|refine ab ?_ _|refine al ?_ _|refine ae ?_ (by assumption)|(right;simp;done)|(right;simp;omega)|(left;rfl))
theorem DP (s:ByteArray)(b i:Nat)(w:World)(hB:s.size≤400∧i≤400)(hr:Rd w b s i)(h0:aR (bt s i)=true)(h1:bd (bt s (i+1))=false):Calls Tryz.prog 149 #[.pointer (some ⟨b,0,none⟩)] w (RP w b s (.tuple #[.agg #[.int .i64 0,.int .i64 0,.int .i64 0,.int .i64 0,.int .i64 0,.int .i64 0,.int .i64 0,.int .i64 0],.bool false]) (i+1)):=by
 have hl:=hr.lt
 have hne:w.heap.size≠b:=by omega
 have hs:=hB.1
 have hlt:=dO h0
 go_enter Tryz.func149,Tryz.ntmps149
 go_wp2_with fail
 go_at_call 152
 refine (fB s b i _ hB (hr.alloc _) h0).mono ?_
 rintro e w1 ⟨rfl,hr1,hg1⟩
 obtain⟨⟨hc1,hf1⟩,hn1,hzw1,hyw1,hxw1,hk1⟩:=nx hr1 hg1 (by omega)
 go_wp2_with fail
 go_at_call 156
 refine (tI s b (i+1) _ ⟨hs,by omega⟩ (by with_reducible repeat' (first|assumption|refine Rd.alloc ?_ _|refine Rd.drewN ?_ _|refine Rd.step ?_|refine Rd.other ?_ ?_ _|(simp;omega))) h1).mono ?_
 rintro e w2 ⟨rfl,hr2,hg2⟩
 obtain⟨hc2,hf2⟩:=cL hg2
 have hn2:w2.heap.size≠b:=by have:=hr2.lt;omega
 have hzw2:w.heap.size<w2.heap.size:=by have:=hg2.size;(try simp at this);omega
 have hyw2:=Nat.le_of_lt hzw2
 have hxw2:=Nat.ne_of_lt hzw2
 have hk2:=af ((hg2.block w.heap.size (by (try simp);omega) (by simp;omega)).trans hk1.out)
 go_wp2
 refine bodyPost_ret (v:=.tuple #[.agg #[.int .i64 0,.int .i64 0,.int .i64 0,.int .i64 0,.int .i64 0,.int .i64 0,.int .i64 0,.int .i64 0],.bool false]) (aO Tryz.results149 rfl ((Below.heap_alloc _ _ _ (by simp;omega)).trans (bk 7 (bk 6 (bk 5 (bk 4 (bk 3 (bk 2 (bk 1 (bk 0 hk2.out))))))))) Tryz.underlying219 rfl (by kernel_rfl) rfl) rfl ⟨rfl,?_,?_⟩
 ·with_reducible repeat' (first|assumption|refine Rd.alloc ?_ _|refine Rd.drewN ?_ _|refine Rd.step ?_|refine Rd.other ?_ ?_ _|(simp;omega))
 ·with_reducible repeat' (first|assumption|exact ag _ _|refine aj ?_ ?_ _|refine ab ?_ _|refine al ?_ _|refine ae ?_ (by assumption)|(right;simp;done)|(right;simp;omega)|(left;rfl))
theorem DA (s:ByteArray)(b i:Nat)(w:World)(hB:s.size≤400∧i≤400)(hr:Rd w b s i)(h0:aR (bt s i)=true)(h1:bd (bt s (i+1))=true)(h2:bd (bt s (c9 s (i+1)))=false):Calls Tryz.prog 149 #[.pointer (some ⟨b,0,none⟩)] w (RP w b s (.tuple #[.agg #[.int .i64 1,.int .i64 (bt s i - 97),.int .i64 (dw (bt s (i+1))),.int .i64 (dC (bt s (i+1))),.int .i64 (g9 (bt s (i+1+1))),.int .i64 0,.int .i64 0,.int .i64 0],.bool false]) (c9 s (i+1))):=by
 have hl:=hr.lt
 have hne:w.heap.size≠b:=by omega
 have hs:=hB.1
 have hlt:=dO h0
 have hlt1:=ks h1
 obtain⟨j,hj⟩:∃ j,j=c9 s (i+1):=⟨_,rfl⟩
 have ex1:=fun W hW=>nc s b (i+1) W ⟨hs,by omega⟩ hW h1
 rw[←hj] at h2 hlt1 ex1 ⊢
 clear hj
 go_enter Tryz.func149,Tryz.ntmps149
 go_wp2_with fail
 go_at_call 152
 refine (fB s b i _ hB (hr.alloc _) h0).mono ?_
 rintro e w1 ⟨rfl,hr1,hg1⟩
 obtain⟨⟨hc1,hf1⟩,hn1,hzw1,hyw1,hxw1,hk1⟩:=nx hr1 hg1 (by omega)
 go_wp2_with fail
 go_at_call 156
 refine (ex1 _ (by with_reducible repeat' (first|assumption|refine Rd.alloc ?_ _|refine Rd.drewN ?_ _|refine Rd.step ?_|refine Rd.other ?_ ?_ _|(simp;omega)))).mono ?_
 rintro e w2 ⟨rfl,hr2,hg2⟩
 obtain⟨hc2,hf2⟩:=cL hg2
 have hn2:w2.heap.size≠b:=by have:=hr2.lt;omega
 have hzw2:w.heap.size<w2.heap.size:=by have:=hg2.size;(try simp at this);omega
 have hyw2:=Nat.le_of_lt hzw2
 have hxw2:=Nat.ne_of_lt hzw2
 have hk2:=af ((hg2.block w.heap.size (by (try simp);omega) (by simp;omega)).trans hk1.out)
 go_wp2_with fail
 go_at_call 156
 refine (tI s b j _ ⟨hs,by omega⟩ (by with_reducible repeat' (first|assumption|refine Rd.alloc ?_ _|refine Rd.drewN ?_ _|refine Rd.step ?_|refine Rd.other ?_ ?_ _|(simp;omega))) h2).mono ?_
 rintro e w3 ⟨rfl,hr3,hg3⟩
 obtain⟨hc3,hf3⟩:=cL hg3
 have hn3:w3.heap.size≠b:=by have:=hr3.lt;omega
 have hzw3:w.heap.size<w3.heap.size:=by have:=hg3.size;(try simp at this);omega
 have hyw3:=Nat.le_of_lt hzw3
 have hxw3:=Nat.ne_of_lt hzw3
 have hzw23:w2.heap.size<w3.heap.size:=by have:=hg3.size;(try simp at this);omega
 have hyw23:=Nat.le_of_lt hzw23
 have hxw23:=Nat.ne_of_lt hzw23
 have hk3:=af ((hg3.block w.heap.size (by (try simp);omega) (by simp;omega)).trans ((Below.heap_alloc _ _ _ hzw2).trans hk2.out))
 go_wp2
 refine bodyPost_ret (v:=.tuple #[.agg #[.int .i64 1,.int .i64 (bt s i - 97),.int .i64 (dw (bt s (i+1))),.int .i64 (dC (bt s (i+1))),.int .i64 (g9 (bt s (i+1+1))),.int .i64 0,.int .i64 0,.int .i64 0],.bool false]) (aO Tryz.results149 rfl ((Below.heap_alloc _ _ _ (by simp;omega)).trans (bk 7 (bk 6 (bk 5 (bk 4 (bk 3 (bk 2 (bk 1 (bk 0 hk3.out))))))))) Tryz.underlying219 rfl (by kernel_rfl) rfl) rfl ⟨rfl,?_,?_⟩
 ·with_reducible repeat' (first|assumption|refine Rd.alloc ?_ _|refine Rd.drewN ?_ _|refine Rd.step ?_|refine Rd.other ?_ ?_ _|(simp;omega))
 ·with_reducible repeat' (first|assumption|exact ag _ _|refine aj ?_ ?_ _|refine ab ?_ _|refine al ?_ _|refine ae ?_ (by assumption)|(right;simp;done)|(right;simp;omega)|(left;rfl))
theorem B5 (s:ByteArray)(b i:Nat)(w:World)(hB:s.size≤400∧i≤400)(hr:Rd w b s i)(h0:aR (bt s i)=true)(h1:bd (bt s (i+1))=true)(h2:bd (bt s (c9 s (i+1)))=true):Calls Tryz.prog 149 #[.pointer (some ⟨b,0,none⟩)] w (RP w b s (.tuple #[.agg #[.int .i64 1,.int .i64 (bt s i - 97),.int .i64 (dw (bt s (i+1))),.int .i64 (dC (bt s (i+1))),.int .i64 (g9 (bt s (i+1+1))),.int .i64 (dw (bt s (c9 s (i+1)))),.int .i64 (dC (bt s (c9 s (i+1)))),.int .i64 (g9 (bt s (c9 s (i+1)+1)))],.bool true]) (c9 s (c9 s (i+1)))):=by
 have hl:=hr.lt
 have hne:w.heap.size≠b:=by omega
 have hs:=hB.1
 have hlt:=dO h0
 have hlt1:=ks h1
 obtain⟨j,hj⟩:∃ j,j=c9 s (i+1):=⟨_,rfl⟩
 have ex1:=fun W hW=>nc s b (i+1) W ⟨hs,by omega⟩ hW h1
 rw[←hj] at h2 hlt1 ex1 ⊢
 clear hj
 go_enter Tryz.func149,Tryz.ntmps149
 go_wp2_with fail
 go_at_call 152
 refine (fB s b i _ hB (hr.alloc _) h0).mono ?_
 rintro e w1 ⟨rfl,hr1,hg1⟩
 obtain⟨⟨hc1,hf1⟩,hn1,hzw1,hyw1,hxw1,hk1⟩:=nx hr1 hg1 (by omega)
 go_wp2_with fail
 go_at_call 156
 refine (ex1 _ (by with_reducible repeat' (first|assumption|refine Rd.alloc ?_ _|refine Rd.drewN ?_ _|refine Rd.step ?_|refine Rd.other ?_ ?_ _|(simp;omega)))).mono ?_
 rintro e w2 ⟨rfl,hr2,hg2⟩
 obtain⟨hc2,hf2⟩:=cL hg2
 have hn2:w2.heap.size≠b:=by have:=hr2.lt;omega
 have hzw2:w.heap.size<w2.heap.size:=by have:=hg2.size;(try simp at this);omega
 have hyw2:=Nat.le_of_lt hzw2
 have hxw2:=Nat.ne_of_lt hzw2
 have hk2:=af ((hg2.block w.heap.size (by (try simp);omega) (by simp;omega)).trans hk1.out)
 go_wp2_with fail
 go_at_call 156
 refine (nc s b j _ ⟨hs,by omega⟩ (by with_reducible repeat' (first|assumption|refine Rd.alloc ?_ _|refine Rd.drewN ?_ _|refine Rd.step ?_|refine Rd.other ?_ ?_ _|(simp;omega))) h2).mono ?_
 rintro e w3 ⟨rfl,hr3,hg3⟩
 obtain⟨hc3,hf3⟩:=cL hg3
 have hn3:w3.heap.size≠b:=by have:=hr3.lt;omega
 have hzw3:w.heap.size<w3.heap.size:=by have:=hg3.size;(try simp at this);omega
 have hyw3:=Nat.le_of_lt hzw3
 have hxw3:=Nat.ne_of_lt hzw3
 have hzw23:w2.heap.size<w3.heap.size:=by have:=hg3.size;(try simp at this);omega
 have hyw23:=Nat.le_of_lt hzw23
 have hxw23:=Nat.ne_of_lt hzw23
 have hk3:=af ((hg3.block w.heap.size (by (try simp);omega) (by simp;omega)).trans ((Below.heap_alloc _ _ _ hzw2).trans hk2.out))
 go_wp2
 refine bodyPost_ret (v:=.tuple #[.agg #[.int .i64 1,.int .i64 (bt s i - 97),.int .i64 (dw (bt s (i+1))),.int .i64 (dC (bt s (i+1))),.int .i64 (g9 (bt s (i+1+1))),.int .i64 (dw (bt s j)),.int .i64 (dC (bt s j)),.int .i64 (g9 (bt s (j+1)))],.bool true]) (aO Tryz.results149 rfl ((Below.heap_alloc _ _ _ (by simp;omega)).trans (bk 7 (bk 6 (bk 5 (bk 4 (bk 3 (bk 2 (bk 1 (bk 0 hk3.out))))))))) Tryz.underlying219 rfl (by kernel_rfl) rfl) rfl ⟨rfl,?_,?_⟩
 ·with_reducible repeat' (first|assumption|refine Rd.alloc ?_ _|refine Rd.drewN ?_ _|refine Rd.step ?_|refine Rd.other ?_ ?_ _|(simp;omega))
 ·with_reducible repeat' (first|assumption|exact ag _ _|refine aj ?_ ?_ _|refine ab ?_ _|refine al ?_ _|refine ae ?_ (by assumption)|(right;simp;done)|(right;simp;omega)|(left;rfl))
end Go.Proofs.YthlhbjnkohinmaaGreat
