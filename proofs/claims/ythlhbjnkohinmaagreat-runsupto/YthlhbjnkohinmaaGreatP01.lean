import Derived.Test.YthlhbjnkohinmaaGreatP00
namespace Go.Proofs.YthlhbjnkohinmaaGreat
set_option maxRecDepth 100000
set_option maxHeartbeats 8000000
open Go.RowKit
theorem nE (s:ByteArray)(b i:Nat)(w:World)(hB:s.size≤400∧i≤400)(hr:Rd w b s i)(h:be (bt s i)=true):Calls Tryz.prog 156 #[.pointer (some ⟨b,0,none⟩)] w (RP w b s (.tuple #[.agg #[.int .i64 (dy (bt s i)),.int .i64 (dE (bt s i)),.int .i64 (hJ (bt s (i+1)))],.bool true]) (db s i)):=by
 have hlt:=gt h
 have hs:=hB.1
 by_cases h1:bt s (i+1)=94
 ·have e1:hJ (bt s (i+1))=1:=by simp[hJ,h1]
  have e2:db s i=i+2:=by simp[db,ff,h1]
  rw[e1,e2];exact E7 s b i w hB hr h (by omega) h1
 ·by_cases h2:bt s (i+1)=126
  ·have e1:hJ (bt s (i+1))=-1:=by simp[hJ,h2]
   have e2:db s i=i+2:=by simp[db,ff,h2]
   rw[e1,e2];exact AD s b i w hB hr h (by omega) h2
  ·have e1:hJ (bt s (i+1))=0:=by simp[hJ,h1,h2]
   have e3:ff (bt s (i+1))=false:=by simp[ff,h1,h2]
   have e2:db s i=i+1:=by simp[db,e3]
   rw[e1,e2];exact wW s b i w hB hr h (by omega) e3
theorem uU (s:ByteArray)(b i:Nat)(w:World)(hB:s.size≤400∧i≤400)(hr:Rd w b s i)(kind:Int)(h0:aR (bt s i)=false):Calls Tryz.prog 147 #[.pointer (some ⟨b,0,none⟩),.int .i64 kind] w (RP w b s (.tuple #[.agg #[.int .i64 0,.int .i64 0,.int .u8 0,.int .i64 0,.int .i64 0,.int .i64 0,.int .i64 0],.bool false]) (i)):=by
 have hl:=hr.lt
 have hne:w.heap.size≠b:=by omega
 have hs:=hB.1
 go_enter Tryz.func147,Tryz.ntmps147
 go_wp2_with fail
 go_at_call 152
 refine (oq s b i _ hB (hr.alloc _) h0).mono ?_
 rintro e w1 ⟨rfl,hr1,hg1⟩
 obtain⟨⟨hc1,hf1⟩,hn1,hzw1,hyw1,hxw1,hk1⟩:=nx hr1 hg1 (by omega)
 go_wp2
 refine bodyPost_ret (v:=.tuple #[.agg #[.int .i64 0,.int .i64 0,.int .u8 0,.int .i64 0,.int .i64 0,.int .i64 0,.int .i64 0],.bool false]) (aO Tryz.results147 rfl (bk 6 (bk 5 (bk 4 (bk 3 (bk 2 (bk 1 (bk 0 hk1.out))))))) Tryz.underlying206 rfl (by kernel_rfl) rfl) rfl ⟨rfl,?_,?_⟩
 ·with_reducible repeat' (first|assumption|refine Rd.alloc ?_ _|refine Rd.drewN ?_ _|refine Rd.step ?_|refine Rd.other ?_ ?_ _|(simp;omega))
 ·with_reducible repeat' (first|assumption|exact ag _ _|refine aj ?_ ?_ _|refine ab ?_ _|refine al ?_ _|refine ae ?_ (by assumption)|(right;simp;done)|(right;simp;omega)|(left;rfl))
theorem vN (s:ByteArray)(b i:Nat)(w:World)(hB:s.size≤400∧i≤400)(hr:Rd w b s i)(kind:Int)(h0:aR (bt s i)=true)(h1:c9 (bt s (i+1))=false):Calls Tryz.prog 147 #[.pointer (some ⟨b,0,none⟩),.int .i64 kind] w (RP w b s (.tuple #[.agg #[.int .i64 0,.int .i64 0,.int .u8 0,.int .i64 0,.int .i64 0,.int .i64 0,.int .i64 0],.bool false]) (i+1)):=by
 have hl:=hr.lt
 have hne:w.heap.size≠b:=by omega
 have hs:=hB.1
 have hlt:=dR h0
 go_enter Tryz.func147,Tryz.ntmps147
 go_wp2_with fail
 go_at_call 152
 refine (fC s b i _ hB (hr.alloc _) h0).mono ?_
 rintro e w1 ⟨rfl,hr1,hg1⟩
 obtain⟨⟨hc1,hf1⟩,hn1,hzw1,hyw1,hxw1,hk1⟩:=nx hr1 hg1 (by omega)
 go_wp2_with fail
 go_at_call 153
 refine (yW s b (i+1) _ ⟨hs,by omega⟩ (by with_reducible repeat' (first|assumption|refine Rd.alloc ?_ _|refine Rd.drewN ?_ _|refine Rd.step ?_|refine Rd.other ?_ ?_ _|(simp;omega))) h1).mono ?_
 rintro e w2 ⟨rfl,hr2,hg2⟩
 obtain⟨hc2,hf2⟩:=cM hg2
 have hn2:w2.heap.size≠b:=by have:=hr2.lt;omega
 have hzw2:w.heap.size<w2.heap.size:=by have:=hg2.size;(try simp at this);omega
 have hyw2:=Nat.le_of_lt hzw2
 have hxw2:=Nat.ne_of_lt hzw2
 have hk2:=af ((hg2.block w.heap.size (by (try simp);omega) (by simp;omega)).trans hk1.out)
 go_wp2
 refine bodyPost_ret (v:=.tuple #[.agg #[.int .i64 0,.int .i64 0,.int .u8 0,.int .i64 0,.int .i64 0,.int .i64 0,.int .i64 0],.bool false]) (aO Tryz.results147 rfl ((Below.heap_alloc _ _ _ (by simp;omega)).trans (bk 6 (bk 5 (bk 4 (bk 3 (bk 2 (bk 1 (bk 0 hk2.out)))))))) Tryz.underlying206 rfl (by kernel_rfl) rfl) rfl ⟨rfl,?_,?_⟩
 ·with_reducible repeat' (first|assumption|refine Rd.alloc ?_ _|refine Rd.drewN ?_ _|refine Rd.step ?_|refine Rd.other ?_ ?_ _|(simp;omega))
 ·with_reducible repeat' (first|assumption|exact ag _ _|refine aj ?_ ?_ _|refine ab ?_ _|refine al ?_ _|refine ae ?_ (by assumption)|(right;simp;done)|(right;simp;omega)|(left;rfl))
theorem uH (s:ByteArray)(b i:Nat)(w:World)(hB:s.size≤400∧i≤400)(hr:Rd w b s i)(kind:Int)(h0:aR (bt s i)=true)(h1:c9 (bt s (i+1))=true)(h2:c9 (bt s (i+2))=false):Calls Tryz.prog 147 #[.pointer (some ⟨b,0,none⟩),.int .i64 kind] w (RP w b s (.tuple #[.agg #[.int .i64 kind,.int .i64 (bt s i - 97),.int .u8 0,.int .i64 (dy (bt s (i+1))),.int .i64 (dE (bt s (i+1))),.int .i64 0,.int .i64 0],.bool false]) (i+2)):=by
 have hl:=hr.lt
 have hne:w.heap.size≠b:=by omega
 have hs:=hB.1
 have hlt:=dR h0
 have hlt1:=lD h1
 go_enter Tryz.func147,Tryz.ntmps147
 go_wp2_with fail
 go_at_call 152
 refine (fC s b i _ hB (hr.alloc _) h0).mono ?_
 rintro e w1 ⟨rfl,hr1,hg1⟩
 obtain⟨⟨hc1,hf1⟩,hn1,hzw1,hyw1,hxw1,hk1⟩:=nx hr1 hg1 (by omega)
 go_wp2_with fail
 go_at_call 153
 refine (qV s b (i+1) _ ⟨hs,by omega⟩ (by with_reducible repeat' (first|assumption|refine Rd.alloc ?_ _|refine Rd.drewN ?_ _|refine Rd.step ?_|refine Rd.other ?_ ?_ _|(simp;omega))) h1).mono ?_
 rintro e w2 ⟨rfl,hr2,hg2⟩
 obtain⟨hc2,hf2⟩:=cM hg2
 have hn2:w2.heap.size≠b:=by have:=hr2.lt;omega
 have hzw2:w.heap.size<w2.heap.size:=by have:=hg2.size;(try simp at this);omega
 have hyw2:=Nat.le_of_lt hzw2
 have hxw2:=Nat.ne_of_lt hzw2
 have hk2:=af ((hg2.block w.heap.size (by (try simp);omega) (by simp;omega)).trans hk1.out)
 go_wp2_with fail
 go_at_call 153
 refine (yW s b (i+2) _ ⟨hs,by omega⟩ (by with_reducible repeat' (first|assumption|refine Rd.alloc ?_ _|refine Rd.drewN ?_ _|refine Rd.step ?_|refine Rd.other ?_ ?_ _|(simp;omega))) h2).mono ?_
 rintro e w3 ⟨rfl,hr3,hg3⟩
 obtain⟨hc3,hf3⟩:=cM hg3
 have hn3:w3.heap.size≠b:=by have:=hr3.lt;omega
 have hzw3:w.heap.size<w3.heap.size:=by have:=hg3.size;(try simp at this);omega
 have hyw3:=Nat.le_of_lt hzw3
 have hxw3:=Nat.ne_of_lt hzw3
 have hzw23:w2.heap.size<w3.heap.size:=by have:=hg3.size;(try simp at this);omega
 have hyw23:=Nat.le_of_lt hzw23
 have hxw23:=Nat.ne_of_lt hzw23
 have hk3:=af ((hg3.block w.heap.size (by (try simp);omega) (by simp;omega)).trans ((Below.heap_alloc _ _ _ hzw2).trans hk2.out))
 go_wp2
 refine bodyPost_ret (v:=.tuple #[.agg #[.int .i64 kind,.int .i64 (bt s i - 97),.int .u8 0,.int .i64 (dy (bt s (i+1))),.int .i64 (dE (bt s (i+1))),.int .i64 0,.int .i64 0],.bool false]) (aO Tryz.results147 rfl ((Below.heap_alloc _ _ _ (by simp;omega)).trans (bk 6 (bk 5 (bk 4 (bk 3 (bk 2 (bk 1 (bk 0 hk3.out)))))))) Tryz.underlying206 rfl (by kernel_rfl) rfl) rfl ⟨rfl,?_,?_⟩
 ·with_reducible repeat' (first|assumption|refine Rd.alloc ?_ _|refine Rd.drewN ?_ _|refine Rd.step ?_|refine Rd.other ?_ ?_ _|(simp;omega))
 ·with_reducible repeat' (first|assumption|exact ag _ _|refine aj ?_ ?_ _|refine ab ?_ _|refine al ?_ _|refine ae ?_ (by assumption)|(right;simp;done)|(right;simp;omega)|(left;rfl))
theorem tZ (s:ByteArray)(b i:Nat)(w:World)(hB:s.size≤400∧i≤400)(hr:Rd w b s i)(kind:Int)(h0:aR (bt s i)=true)(h1:c9 (bt s (i+1))=true)(h2:c9 (bt s (i+2))=true):Calls Tryz.prog 147 #[.pointer (some ⟨b,0,none⟩),.int .i64 kind] w (RP w b s (.tuple #[.agg #[.int .i64 kind,.int .i64 (bt s i - 97),.int .u8 0,.int .i64 (dy (bt s (i+1))),.int .i64 (dE (bt s (i+1))),.int .i64 (dy (bt s (i+2))),.int .i64 (dE (bt s (i+2)))],.bool true]) (i+3)):=by
 have hl:=hr.lt
 have hne:w.heap.size≠b:=by omega
 have hs:=hB.1
 have hlt:=dR h0
 have hlt1:=lD h1
 go_enter Tryz.func147,Tryz.ntmps147
 go_wp2_with fail
 go_at_call 152
 refine (fC s b i _ hB (hr.alloc _) h0).mono ?_
 rintro e w1 ⟨rfl,hr1,hg1⟩
 obtain⟨⟨hc1,hf1⟩,hn1,hzw1,hyw1,hxw1,hk1⟩:=nx hr1 hg1 (by omega)
 go_wp2_with fail
 go_at_call 153
 refine (qV s b (i+1) _ ⟨hs,by omega⟩ (by with_reducible repeat' (first|assumption|refine Rd.alloc ?_ _|refine Rd.drewN ?_ _|refine Rd.step ?_|refine Rd.other ?_ ?_ _|(simp;omega))) h1).mono ?_
 rintro e w2 ⟨rfl,hr2,hg2⟩
 obtain⟨hc2,hf2⟩:=cM hg2
 have hn2:w2.heap.size≠b:=by have:=hr2.lt;omega
 have hzw2:w.heap.size<w2.heap.size:=by have:=hg2.size;(try simp at this);omega
 have hyw2:=Nat.le_of_lt hzw2
 have hxw2:=Nat.ne_of_lt hzw2
 have hk2:=af ((hg2.block w.heap.size (by (try simp);omega) (by simp;omega)).trans hk1.out)
 go_wp2_with fail
 go_at_call 153
 refine (qV s b (i+2) _ ⟨hs,by omega⟩ (by with_reducible repeat' (first|assumption|refine Rd.alloc ?_ _|refine Rd.drewN ?_ _|refine Rd.step ?_|refine Rd.other ?_ ?_ _|(simp;omega))) h2).mono ?_
 rintro e w3 ⟨rfl,hr3,hg3⟩
 obtain⟨hc3,hf3⟩:=cM hg3
 have hn3:w3.heap.size≠b:=by have:=hr3.lt;omega
 have hzw3:w.heap.size<w3.heap.size:=by have:=hg3.size;(try simp at this);omega
 have hyw3:=Nat.le_of_lt hzw3
 have hxw3:=Nat.ne_of_lt hzw3
 have hzw23:w2.heap.size<w3.heap.size:=by have:=hg3.size;(try simp at this);omega
 have hyw23:=Nat.le_of_lt hzw23
 have hxw23:=Nat.ne_of_lt hzw23
 have hk3:=af ((hg3.block w.heap.size (by (try simp);omega) (by simp;omega)).trans ((Below.heap_alloc _ _ _ hzw2).trans hk2.out))
 go_wp2
 refine bodyPost_ret (v:=.tuple #[.agg #[.int .i64 kind,.int .i64 (bt s i - 97),.int .u8 0,.int .i64 (dy (bt s (i+1))),.int .i64 (dE (bt s (i+1))),.int .i64 (dy (bt s (i+2))),.int .i64 (dE (bt s (i+2)))],.bool true]) (aO Tryz.results147 rfl ((Below.heap_alloc _ _ _ (by simp;omega)).trans (bk 6 (bk 5 (bk 4 (bk 3 (bk 2 (bk 1 (bk 0 hk3.out)))))))) Tryz.underlying206 rfl (by kernel_rfl) rfl) rfl ⟨rfl,?_,?_⟩
 ·with_reducible repeat' (first|assumption|refine Rd.alloc ?_ _|refine Rd.drewN ?_ _|refine Rd.step ?_|refine Rd.other ?_ ?_ _|(simp;omega))
 ·with_reducible repeat' (first|assumption|exact ag _ _|refine aj ?_ ?_ _|refine ab ?_ _|refine al ?_ _|refine ae ?_ (by assumption)|(right;simp;done)|(right;simp;omega)|(left;rfl))
theorem B1 (s:ByteArray)(b i:Nat)(w:World)(hB:s.size≤400∧i≤400)(hr:Rd w b s i)(h0:be (bt s i)=false):Calls Tryz.prog 148 #[.pointer (some ⟨b,0,none⟩)] w (RP w b s (.tuple #[.agg #[.int .i64 0,.int .i64 0,.int .u8 0,.int .i64 0,.int .i64 0,.int .i64 0,.int .i64 0],.bool false]) (i)):=by
 have hl:=hr.lt
 have hne:w.heap.size≠b:=by omega
 have hs:=hB.1
 go_enter Tryz.func148,Tryz.ntmps148
 go_wp2_with fail
 go_at_call 154
 refine (kr s b i _ hB (hr.alloc _) h0).mono ?_
 rintro e w1 ⟨rfl,hr1,hg1⟩
 obtain⟨⟨hc1,hf1⟩,hn1,hzw1,hyw1,hxw1,hk1⟩:=nx hr1 hg1 (by omega)
 go_wp2
 refine bodyPost_ret (v:=.tuple #[.agg #[.int .i64 0,.int .i64 0,.int .u8 0,.int .i64 0,.int .i64 0,.int .i64 0,.int .i64 0],.bool false]) (aO Tryz.results148 rfl ((Below.heap_alloc _ _ _ (by simp;omega)).trans (bk 6 (bk 5 (bk 4 (bk 3 (bk 2 (bk 1 (bk 0 hk1.out)))))))) Tryz.underlying206 rfl (by kernel_rfl) rfl) rfl ⟨rfl,?_,?_⟩
 ·with_reducible repeat' (first|assumption|refine Rd.alloc ?_ _|refine Rd.drewN ?_ _|refine Rd.step ?_|refine Rd.other ?_ ?_ _|(simp;omega))
 ·with_reducible repeat' (first|assumption|exact ag _ _|refine aj ?_ ?_ _|refine ab ?_ _|refine al ?_ _|refine ae ?_ (by assumption)|(right;simp;done)|(right;simp;omega)|(left;rfl))
theorem Dh (s:ByteArray)(b i:Nat)(w:World)(hB:s.size≤400∧i≤400)(hr:Rd w b s i)(h0:be (bt s i)=true)(h1:gE (bt s (i+1))=false):Calls Tryz.prog 148 #[.pointer (some ⟨b,0,none⟩)] w (RP w b s (.tuple #[.agg #[.int .i64 0,.int .i64 0,.int .u8 0,.int .i64 0,.int .i64 0,.int .i64 0,.int .i64 0],.bool false]) (i+1)):=by
 have hl:=hr.lt
 have hne:w.heap.size≠b:=by omega
 have hs:=hB.1
 have hlt:=gt h0
 go_enter Tryz.func148,Tryz.ntmps148
 go_wp2_with fail
 go_at_call 154
 refine (eF s b i _ hB (hr.alloc _) h0).mono ?_
 rintro e w1 ⟨rfl,hr1,hg1⟩
 obtain⟨⟨hc1,hf1⟩,hn1,hzw1,hyw1,hxw1,hk1⟩:=nx hr1 hg1 (by omega)
 go_wp2_with fail
 go_at_call 155
 refine (Fa s b (i+1) _ ⟨hs,by omega⟩ (by with_reducible repeat' (first|assumption|refine Rd.alloc ?_ _|refine Rd.drewN ?_ _|refine Rd.step ?_|refine Rd.other ?_ ?_ _|(simp;omega))) h1).mono ?_
 rintro e w2 ⟨rfl,hr2,hg2⟩
 obtain⟨hc2,hf2⟩:=cM hg2
 have hn2:w2.heap.size≠b:=by have:=hr2.lt;omega
 have hzw2:w.heap.size<w2.heap.size:=by have:=hg2.size;(try simp at this);omega
 have hyw2:=Nat.le_of_lt hzw2
 have hxw2:=Nat.ne_of_lt hzw2
 have hzw12:w1.heap.size<w2.heap.size:=by have:=hg2.size;(try simp at this);omega
 have hyw12:=Nat.le_of_lt hzw12
 have hxw12:=Nat.ne_of_lt hzw12
 have hk2:=af ((hg2.block w.heap.size (by (try simp);omega) (by simp;omega)).trans ((Below.heap_alloc _ _ _ hzw1).trans hk1.out))
 go_wp2
 refine bodyPost_ret (v:=.tuple #[.agg #[.int .i64 0,.int .i64 0,.int .u8 0,.int .i64 0,.int .i64 0,.int .i64 0,.int .i64 0],.bool false]) (aO Tryz.results148 rfl (bk 6 (bk 5 (bk 4 (bk 3 (bk 2 (bk 1 (bk 0 hk2.out))))))) Tryz.underlying206 rfl (by kernel_rfl) rfl) rfl ⟨rfl,?_,?_⟩
 ·with_reducible repeat' (first|assumption|refine Rd.alloc ?_ _|refine Rd.drewN ?_ _|refine Rd.step ?_|refine Rd.other ?_ ?_ _|(simp;omega))
 ·with_reducible repeat' (first|assumption|exact ag _ _|refine aj ?_ ?_ _|refine ab ?_ _|refine al ?_ _|refine ae ?_ (by assumption)|(right;simp;done)|(right;simp;omega)|(left;rfl))
theorem C1 (s:ByteArray)(b i:Nat)(w:World)(hB:s.size≤400∧i≤400)(hr:Rd w b s i)(h0:be (bt s i)=true)(h1:gE (bt s (i+1))=true)(h2:be (bt s (i+2))=false):Calls Tryz.prog 148 #[.pointer (some ⟨b,0,none⟩)] w (RP w b s (.tuple #[.agg #[.int .i64 3,.int .i64 0,.int .u8 (bt s (i+1)),.int .i64 (dy (bt s i)),.int .i64 (dE (bt s i)),.int .i64 0,.int .i64 0],.bool false]) (i+2)):=by
 have hl:=hr.lt
 have hne:w.heap.size≠b:=by omega
 have hs:=hB.1
 have hlt:=gt h0
 have hlt1:=nR h1
 go_enter Tryz.func148,Tryz.ntmps148
 go_wp2_with fail
 go_at_call 154
 refine (eF s b i _ hB (hr.alloc _) h0).mono ?_
 rintro e w1 ⟨rfl,hr1,hg1⟩
 obtain⟨⟨hc1,hf1⟩,hn1,hzw1,hyw1,hxw1,hk1⟩:=nx hr1 hg1 (by omega)
 go_wp2_with fail
 go_at_call 155
 refine (vG s b (i+1) _ ⟨hs,by omega⟩ (by with_reducible repeat' (first|assumption|refine Rd.alloc ?_ _|refine Rd.drewN ?_ _|refine Rd.step ?_|refine Rd.other ?_ ?_ _|(simp;omega))) h1).mono ?_
 rintro e w2 ⟨rfl,hr2,hg2⟩
 obtain⟨hc2,hf2⟩:=cM hg2
 have hn2:w2.heap.size≠b:=by have:=hr2.lt;omega
 have hzw2:w.heap.size<w2.heap.size:=by have:=hg2.size;(try simp at this);omega
 have hyw2:=Nat.le_of_lt hzw2
 have hxw2:=Nat.ne_of_lt hzw2
 have hzw12:w1.heap.size<w2.heap.size:=by have:=hg2.size;(try simp at this);omega
 have hyw12:=Nat.le_of_lt hzw12
 have hxw12:=Nat.ne_of_lt hzw12
 have hk2:=af ((hg2.block w.heap.size (by (try simp);omega) (by simp;omega)).trans ((Below.heap_alloc _ _ _ hzw1).trans hk1.out))
 go_wp2_with fail
 go_at_call 154
 refine (kr s b (i+2) _ ⟨hs,by omega⟩ (by with_reducible repeat' (first|assumption|refine Rd.alloc ?_ _|refine Rd.drewN ?_ _|refine Rd.step ?_|refine Rd.other ?_ ?_ _|(simp;omega))) h2).mono ?_
 rintro e w3 ⟨rfl,hr3,hg3⟩
 obtain⟨hc3,hf3⟩:=cM hg3
 have hn3:w3.heap.size≠b:=by have:=hr3.lt;omega
 have hzw3:w.heap.size<w3.heap.size:=by have:=hg3.size;(try simp at this);omega
 have hyw3:=Nat.le_of_lt hzw3
 have hxw3:=Nat.ne_of_lt hzw3
 have hzw13:w1.heap.size<w3.heap.size:=by have:=hg3.size;(try simp at this);omega
 have hyw13:=Nat.le_of_lt hzw13
 have hxw13:=Nat.ne_of_lt hzw13
 have hk3:=af ((hg3.block w.heap.size (by (try simp);omega) (by simp;omega)).trans hk2.out)
 go_wp2
 refine bodyPost_ret (v:=.tuple #[.agg #[.int .i64 3,.int .i64 0,.int .u8 (bt s (i+1)),.int .i64 (dy (bt s i)),.int .i64 (dE (bt s i)),.int .i64 0,.int .i64 0],.bool false]) (aO Tryz.results148 rfl ((Below.heap_alloc _ _ _ (by simp;omega)).trans (bk 6 (bk 5 (bk 4 (bk 3 (bk 2 (bk 1 (bk 0 hk3.out)))))))) Tryz.underlying206 rfl (by kernel_rfl) rfl) rfl ⟨rfl,?_,?_⟩
 ·with_reducible repeat' (first|assumption|refine Rd.alloc ?_ _|refine Rd.drewN ?_ _|refine Rd.step ?_|refine Rd.other ?_ ?_ _|(simp;omega))
 ·with_reducible repeat' (first|assumption|exact ag _ _|refine aj ?_ ?_ _|refine ab ?_ _|refine al ?_ _|refine ae ?_ (by assumption)|(right;simp;done)|(right;simp;omega)|(left;rfl))
theorem Df (s:ByteArray)(b i:Nat)(w:World)(hB:s.size≤400∧i≤400)(hr:Rd w b s i)(h0:be (bt s i)=true)(h1:gE (bt s (i+1))=true)(h2:be (bt s (i+2))=true):Calls Tryz.prog 148 #[.pointer (some ⟨b,0,none⟩)] w (RP w b s (.tuple #[.agg #[.int .i64 3,.int .i64 0,.int .u8 (bt s (i+1)),.int .i64 (dy (bt s i)),.int .i64 (dE (bt s i)),.int .i64 (dy (bt s (i+2))),.int .i64 (dE (bt s (i+2)))],.bool true]) (i+3)):=by
 have hl:=hr.lt
 have hne:w.heap.size≠b:=by omega
 have hs:=hB.1
 have hlt:=gt h0
 have hlt1:=nR h1
 go_enter Tryz.func148,Tryz.ntmps148
 go_wp2_with fail
 go_at_call 154
 refine (eF s b i _ hB (hr.alloc _) h0).mono ?_
 rintro e w1 ⟨rfl,hr1,hg1⟩
 obtain⟨⟨hc1,hf1⟩,hn1,hzw1,hyw1,hxw1,hk1⟩:=nx hr1 hg1 (by omega)
 go_wp2_with fail
 go_at_call 155
 refine (vG s b (i+1) _ ⟨hs,by omega⟩ (by with_reducible repeat' (first|assumption|refine Rd.alloc ?_ _|refine Rd.drewN ?_ _|refine Rd.step ?_|refine Rd.other ?_ ?_ _|(simp;omega))) h1).mono ?_
 rintro e w2 ⟨rfl,hr2,hg2⟩
 obtain⟨hc2,hf2⟩:=cM hg2
 have hn2:w2.heap.size≠b:=by have:=hr2.lt;omega
 have hzw2:w.heap.size<w2.heap.size:=by have:=hg2.size;(try simp at this);omega
 have hyw2:=Nat.le_of_lt hzw2
 have hxw2:=Nat.ne_of_lt hzw2
 have hzw12:w1.heap.size<w2.heap.size:=by have:=hg2.size;(try simp at this);omega
 have hyw12:=Nat.le_of_lt hzw12
 have hxw12:=Nat.ne_of_lt hzw12
 have hk2:=af ((hg2.block w.heap.size (by (try simp);omega) (by simp;omega)).trans ((Below.heap_alloc _ _ _ hzw1).trans hk1.out))
 go_wp2_with fail
 go_at_call 154
 refine (eF s b (i+2) _ ⟨hs,by omega⟩ (by with_reducible repeat' (first|assumption|refine Rd.alloc ?_ _|refine Rd.drewN ?_ _|refine Rd.step ?_|refine Rd.other ?_ ?_ _|(simp;omega))) h2).mono ?_
 rintro e w3 ⟨rfl,hr3,hg3⟩
 obtain⟨hc3,hf3⟩:=cM hg3
 have hn3:w3.heap.size≠b:=by have:=hr3.lt;omega
 have hzw3:w.heap.size<w3.heap.size:=by have:=hg3.size;(try simp at this);omega
 have hyw3:=Nat.le_of_lt hzw3
 have hxw3:=Nat.ne_of_lt hzw3
 have hzw13:w1.heap.size<w3.heap.size:=by have:=hg3.size;(try simp at this);omega
 have hyw13:=Nat.le_of_lt hzw13
 have hxw13:=Nat.ne_of_lt hzw13
 have hk3:=af ((hg3.block w.heap.size (by (try simp);omega) (by simp;omega)).trans hk2.out)
 go_wp2
 refine bodyPost_ret (v:=.tuple #[.agg #[.int .i64 3,.int .i64 0,.int .u8 (bt s (i+1)),.int .i64 (dy (bt s i)),.int .i64 (dE (bt s i)),.int .i64 (dy (bt s (i+2))),.int .i64 (dE (bt s (i+2)))],.bool true]) (aO Tryz.results148 rfl ((Below.heap_alloc _ _ _ (by simp;omega)).trans (bk 6 (bk 5 (bk 4 (bk 3 (bk 2 (bk 1 (bk 0 hk3.out)))))))) Tryz.underlying206 rfl (by kernel_rfl) rfl) rfl ⟨rfl,?_,?_⟩
 ·with_reducible repeat' (first|assumption|refine Rd.alloc ?_ _|refine Rd.drewN ?_ _|refine Rd.step ?_|refine Rd.other ?_ ?_ _|(simp;omega))
 ·with_reducible repeat' (first|assumption|exact ag _ _|refine aj ?_ ?_ _|refine ab ?_ _|refine al ?_ _|refine ae ?_ (by assumption)|(right;simp;done)|(right;simp;omega)|(left;rfl))
theorem z7 (s:ByteArray)(b i:Nat)(w:World)(hB:s.size≤400∧i≤400)(hr:Rd w b s i)(h0:aR (bt s i)=false):Calls Tryz.prog 150 #[.pointer (some ⟨b,0,none⟩)] w (RP w b s (.tuple #[.agg #[.int .i64 0,.int .i64 0,.int .i64 0,.int .i64 0,.int .i64 0,.int .i64 0,.int .i64 0,.int .i64 0],.bool false]) (i)):=by
 have hl:=hr.lt
 have hne:w.heap.size≠b:=by omega
 have hs:=hB.1
 go_enter Tryz.func150,Tryz.ntmps150
 go_wp2_with fail
 go_at_call 152
 refine (oq s b i _ hB (hr.alloc _) h0).mono ?_
 rintro e w1 ⟨rfl,hr1,hg1⟩
 obtain⟨⟨hc1,hf1⟩,hn1,hzw1,hyw1,hxw1,hk1⟩:=nx hr1 hg1 (by omega)
 go_wp2
 refine bodyPost_ret (v:=.tuple #[.agg #[.int .i64 0,.int .i64 0,.int .i64 0,.int .i64 0,.int .i64 0,.int .i64 0,.int .i64 0,.int .i64 0],.bool false]) (aO Tryz.results150 rfl (bk 7 (bk 6 (bk 5 (bk 4 (bk 3 (bk 2 (bk 1 (bk 0 hk1.out)))))))) Tryz.underlying219 rfl (by kernel_rfl) rfl) rfl ⟨rfl,?_,?_⟩
 ·with_reducible repeat' (first|assumption|refine Rd.alloc ?_ _|refine Rd.drewN ?_ _|refine Rd.step ?_|refine Rd.other ?_ ?_ _|(simp;omega))
 ·with_reducible repeat' (first|assumption|exact ag _ _|refine aj ?_ ?_ _|refine ab ?_ _|refine al ?_ _|refine ae ?_ (by assumption)|(right;simp;done)|(right;simp;omega)|(left;rfl))
theorem Bb (s:ByteArray)(b i:Nat)(w:World)(hB:s.size≤400∧i≤400)(hr:Rd w b s i)(h0:aR (bt s i)=true)(h1:be (bt s (i+1))=false):Calls Tryz.prog 150 #[.pointer (some ⟨b,0,none⟩)] w (RP w b s (.tuple #[.agg #[.int .i64 2,.int .i64 (bt s i - 97),.int .i64 0,.int .i64 0,.int .i64 0,.int .i64 0,.int .i64 0,.int .i64 0],.bool false]) (i+1)):=by
 have hl:=hr.lt
 have hne:w.heap.size≠b:=by omega
 have hs:=hB.1
 have hlt:=dR h0
 go_enter Tryz.func150,Tryz.ntmps150
 go_wp2_with fail
 go_at_call 152
 refine (fC s b i _ hB (hr.alloc _) h0).mono ?_
 rintro e w1 ⟨rfl,hr1,hg1⟩
 obtain⟨⟨hc1,hf1⟩,hn1,hzw1,hyw1,hxw1,hk1⟩:=nx hr1 hg1 (by omega)
 go_wp2_with fail
 go_at_call 156
 refine (th s b (i+1) _ ⟨hs,by omega⟩ (by with_reducible repeat' (first|assumption|refine Rd.alloc ?_ _|refine Rd.drewN ?_ _|refine Rd.step ?_|refine Rd.other ?_ ?_ _|(simp;omega))) h1).mono ?_
 rintro e w2 ⟨rfl,hr2,hg2⟩
 obtain⟨hc2,hf2⟩:=cM hg2
 have hn2:w2.heap.size≠b:=by have:=hr2.lt;omega
 have hzw2:w.heap.size<w2.heap.size:=by have:=hg2.size;(try simp at this);omega
 have hyw2:=Nat.le_of_lt hzw2
 have hxw2:=Nat.ne_of_lt hzw2
 have hk2:=af ((hg2.block w.heap.size (by (try simp);omega) (by simp;omega)).trans hk1.out)
 go_wp2
 refine bodyPost_ret (v:=.tuple #[.agg #[.int .i64 2,.int .i64 (bt s i - 97),.int .i64 0,.int .i64 0,.int .i64 0,.int .i64 0,.int .i64 0,.int .i64 0],.bool false]) (aO Tryz.results150 rfl ((Below.heap_alloc _ _ _ (by simp;omega)).trans (bk 7 (bk 6 (bk 5 (bk 4 (bk 3 (bk 2 (bk 1 (bk 0 hk2.out))))))))) Tryz.underlying219 rfl (by kernel_rfl) rfl) rfl ⟨rfl,?_,?_⟩
 ·with_reducible repeat' (first|assumption|refine Rd.alloc ?_ _|refine Rd.drewN ?_ _|refine Rd.step ?_|refine Rd.other ?_ ?_ _|(simp;omega))
 ·with_reducible repeat' (first|assumption|exact ag _ _|refine aj ?_ ?_ _|refine ab ?_ _|refine al ?_ _|refine ae ?_ (by assumption)|(right;simp;done)|(right;simp;omega)|(left;rfl))
theorem zE (s:ByteArray)(b i:Nat)(w:World)(hB:s.size≤400∧i≤400)(hr:Rd w b s i)(h0:aR (bt s i)=true)(h1:be (bt s (i+1))=true):Calls Tryz.prog 150 #[.pointer (some ⟨b,0,none⟩)] w (RP w b s (.tuple #[.agg #[.int .i64 2,.int .i64 (bt s i - 97),.int .i64 (dy (bt s (i+1))),.int .i64 (dE (bt s (i+1))),.int .i64 (hJ (bt s (i+1+1))),.int .i64 0,.int .i64 0,.int .i64 0],.bool true]) (db s (i+1))):=by
 have hl:=hr.lt
 have hne:w.heap.size≠b:=by omega
 have hs:=hB.1
 have hlt:=dR h0
 go_enter Tryz.func150,Tryz.ntmps150
 go_wp2_with fail
 go_at_call 152
 refine (fC s b i _ hB (hr.alloc _) h0).mono ?_
 rintro e w1 ⟨rfl,hr1,hg1⟩
 obtain⟨⟨hc1,hf1⟩,hn1,hzw1,hyw1,hxw1,hk1⟩:=nx hr1 hg1 (by omega)
 go_wp2_with fail
 go_at_call 156
 refine (nE s b (i+1) _ ⟨hs,by omega⟩ (by with_reducible repeat' (first|assumption|refine Rd.alloc ?_ _|refine Rd.drewN ?_ _|refine Rd.step ?_|refine Rd.other ?_ ?_ _|(simp;omega))) h1).mono ?_
 rintro e w2 ⟨rfl,hr2,hg2⟩
 obtain⟨hc2,hf2⟩:=cM hg2
 have hn2:w2.heap.size≠b:=by have:=hr2.lt;omega
 have hzw2:w.heap.size<w2.heap.size:=by have:=hg2.size;(try simp at this);omega
 have hyw2:=Nat.le_of_lt hzw2
 have hxw2:=Nat.ne_of_lt hzw2
 have hk2:=af ((hg2.block w.heap.size (by (try simp);omega) (by simp;omega)).trans hk1.out)
 go_wp2
 refine bodyPost_ret (v:=.tuple #[.agg #[.int .i64 2,.int .i64 (bt s i - 97),.int .i64 (dy (bt s (i+1))),.int .i64 (dE (bt s (i+1))),.int .i64 (hJ (bt s (i+1+1))),.int .i64 0,.int .i64 0,.int .i64 0],.bool true]) (aO Tryz.results150 rfl ((Below.heap_alloc _ _ _ (by simp;omega)).trans (bk 7 (bk 6 (bk 5 (bk 4 (bk 3 (bk 2 (bk 1 (bk 0 hk2.out))))))))) Tryz.underlying219 rfl (by kernel_rfl) rfl) rfl ⟨rfl,?_,?_⟩
 ·with_reducible repeat' (first|assumption|refine Rd.alloc ?_ _|refine Rd.drewN ?_ _|refine Rd.step ?_|refine Rd.other ?_ ?_ _|(simp;omega))
 ·with_reducible repeat' (first|assumption|exact ag _ _|refine aj ?_ ?_ _|refine ab ?_ _|refine al ?_ _|refine ae ?_ (by assumption)|(right;simp;done)|(right;simp;omega)|(left;rfl))
theorem Dr (s:ByteArray)(b i:Nat)(w:World)(hB:s.size≤400∧i≤400)(hr:Rd w b s i)(h0:aR (bt s i)=false):Calls Tryz.prog 149 #[.pointer (some ⟨b,0,none⟩)] w (RP w b s (.tuple #[.agg #[.int .i64 0,.int .i64 0,.int .i64 0,.int .i64 0,.int .i64 0,.int .i64 0,.int .i64 0,.int .i64 0],.bool false]) (i)):=by
 have hl:=hr.lt
 have hne:w.heap.size≠b:=by omega
 have hs:=hB.1
 go_enter Tryz.func149,Tryz.ntmps149
 go_wp2_with fail
 go_at_call 152
 refine (oq s b i _ hB (hr.alloc _) h0).mono ?_
 rintro e w1 ⟨rfl,hr1,hg1⟩
 obtain⟨⟨hc1,hf1⟩,hn1,hzw1,hyw1,hxw1,hk1⟩:=nx hr1 hg1 (by omega)
 go_wp2
 refine bodyPost_ret (v:=.tuple #[.agg #[.int .i64 0,.int .i64 0,.int .i64 0,.int .i64 0,.int .i64 0,.int .i64 0,.int .i64 0,.int .i64 0],.bool false]) (aO Tryz.results149 rfl (bk 7 (bk 6 (bk 5 (bk 4 (bk 3 (bk 2 (bk 1 (bk 0 hk1.out)))))))) Tryz.underlying219 rfl (by kernel_rfl) rfl) rfl ⟨rfl,?_,?_⟩
 ·with_reducible repeat' (first|assumption|refine Rd.alloc ?_ _|refine Rd.drewN ?_ _|refine Rd.step ?_|refine Rd.other ?_ ?_ _|(simp;omega))
 ·with_reducible repeat' (first|assumption|exact ag _ _|refine aj ?_ ?_ _|refine ab ?_ _|refine al ?_ _|refine ae ?_ (by assumption)|(right;simp;done)|(right;simp;omega)|(left;rfl))
theorem DB (s:ByteArray)(b i:Nat)(w:World)(hB:s.size≤400∧i≤400)(hr:Rd w b s i)(h0:aR (bt s i)=true)(h1:be (bt s (i+1))=false):Calls Tryz.prog 149 #[.pointer (some ⟨b,0,none⟩)] w (RP w b s (.tuple #[.agg #[.int .i64 0,.int .i64 0,.int .i64 0,.int .i64 0,.int .i64 0,.int .i64 0,.int .i64 0,.int .i64 0],.bool false]) (i+1)):=by
 have hl:=hr.lt
 have hne:w.heap.size≠b:=by omega
 have hs:=hB.1
 have hlt:=dR h0
 go_enter Tryz.func149,Tryz.ntmps149
 go_wp2_with fail
 go_at_call 152
 refine (fC s b i _ hB (hr.alloc _) h0).mono ?_
 rintro e w1 ⟨rfl,hr1,hg1⟩
 obtain⟨⟨hc1,hf1⟩,hn1,hzw1,hyw1,hxw1,hk1⟩:=nx hr1 hg1 (by omega)
 go_wp2_with fail
 go_at_call 156
 refine (th s b (i+1) _ ⟨hs,by omega⟩ (by with_reducible repeat' (first|assumption|refine Rd.alloc ?_ _|refine Rd.drewN ?_ _|refine Rd.step ?_|refine Rd.other ?_ ?_ _|(simp;omega))) h1).mono ?_
 rintro e w2 ⟨rfl,hr2,hg2⟩
 obtain⟨hc2,hf2⟩:=cM hg2
 have hn2:w2.heap.size≠b:=by have:=hr2.lt;omega
 have hzw2:w.heap.size<w2.heap.size:=by have:=hg2.size;(try simp at this);omega
 have hyw2:=Nat.le_of_lt hzw2
 have hxw2:=Nat.ne_of_lt hzw2
 have hk2:=af ((hg2.block w.heap.size (by (try simp);omega) (by simp;omega)).trans hk1.out)
 go_wp2
 refine bodyPost_ret (v:=.tuple #[.agg #[.int .i64 0,.int .i64 0,.int .i64 0,.int .i64 0,.int .i64 0,.int .i64 0,.int .i64 0,.int .i64 0],.bool false]) (aO Tryz.results149 rfl ((Below.heap_alloc _ _ _ (by simp;omega)).trans (bk 7 (bk 6 (bk 5 (bk 4 (bk 3 (bk 2 (bk 1 (bk 0 hk2.out))))))))) Tryz.underlying219 rfl (by kernel_rfl) rfl) rfl ⟨rfl,?_,?_⟩
 ·with_reducible repeat' (first|assumption|refine Rd.alloc ?_ _|refine Rd.drewN ?_ _|refine Rd.step ?_|refine Rd.other ?_ ?_ _|(simp;omega))
 ·with_reducible repeat' (first|assumption|exact ag _ _|refine aj ?_ ?_ _|refine ab ?_ _|refine al ?_ _|refine ae ?_ (by assumption)|(right;simp;done)|(right;simp;omega)|(left;rfl))
theorem Cv (s:ByteArray)(b i:Nat)(w:World)(hB:s.size≤400∧i≤400)(hr:Rd w b s i)(h0:aR (bt s i)=true)(h1:be (bt s (i+1))=true)(h2:be (bt s (db s (i+1)))=false):Calls Tryz.prog 149 #[.pointer (some ⟨b,0,none⟩)] w (RP w b s (.tuple #[.agg #[.int .i64 1,.int .i64 (bt s i - 97),.int .i64 (dy (bt s (i+1))),.int .i64 (dE (bt s (i+1))),.int .i64 (hJ (bt s (i+1+1))),.int .i64 0,.int .i64 0,.int .i64 0],.bool false]) (db s (i+1))):=by
 have hl:=hr.lt
 have hne:w.heap.size≠b:=by omega
 have hs:=hB.1
 have hlt:=dR h0
 have hlt1:=kg h1
 obtain⟨j,hj⟩:∃ j,j=db s (i+1):=⟨_,rfl⟩
 have ex1:=fun W hW=>nE s b (i+1) W ⟨hs,by omega⟩ hW h1
 rw[←hj] at h2 hlt1 ex1 ⊢
 clear hj
 go_enter Tryz.func149,Tryz.ntmps149
 go_wp2_with fail
 go_at_call 152
 refine (fC s b i _ hB (hr.alloc _) h0).mono ?_
 rintro e w1 ⟨rfl,hr1,hg1⟩
 obtain⟨⟨hc1,hf1⟩,hn1,hzw1,hyw1,hxw1,hk1⟩:=nx hr1 hg1 (by omega)
 go_wp2_with fail
 go_at_call 156
 refine (ex1 _ (by with_reducible repeat' (first|assumption|refine Rd.alloc ?_ _|refine Rd.drewN ?_ _|refine Rd.step ?_|refine Rd.other ?_ ?_ _|(simp;omega)))).mono ?_
 rintro e w2 ⟨rfl,hr2,hg2⟩
 obtain⟨hc2,hf2⟩:=cM hg2
 have hn2:w2.heap.size≠b:=by have:=hr2.lt;omega
 have hzw2:w.heap.size<w2.heap.size:=by have:=hg2.size;(try simp at this);omega
 have hyw2:=Nat.le_of_lt hzw2
 have hxw2:=Nat.ne_of_lt hzw2
 have hk2:=af ((hg2.block w.heap.size (by (try simp);omega) (by simp;omega)).trans hk1.out)
 go_wp2_with fail
 go_at_call 156
 refine (th s b j _ ⟨hs,by omega⟩ (by with_reducible repeat' (first|assumption|refine Rd.alloc ?_ _|refine Rd.drewN ?_ _|refine Rd.step ?_|refine Rd.other ?_ ?_ _|(simp;omega))) h2).mono ?_
 rintro e w3 ⟨rfl,hr3,hg3⟩
 obtain⟨hc3,hf3⟩:=cM hg3
 have hn3:w3.heap.size≠b:=by have:=hr3.lt;omega
 have hzw3:w.heap.size<w3.heap.size:=by have:=hg3.size;(try simp at this);omega
 have hyw3:=Nat.le_of_lt hzw3
 have hxw3:=Nat.ne_of_lt hzw3
 have hzw23:w2.heap.size<w3.heap.size:=by have:=hg3.size;(try simp at this);omega
 have hyw23:=Nat.le_of_lt hzw23
 have hxw23:=Nat.ne_of_lt hzw23
 have hk3:=af ((hg3.block w.heap.size (by (try simp);omega) (by simp;omega)).trans ((Below.heap_alloc _ _ _ hzw2).trans hk2.out))
 go_wp2
 refine bodyPost_ret (v:=.tuple #[.agg #[.int .i64 1,.int .i64 (bt s i - 97),.int .i64 (dy (bt s (i+1))),.int .i64 (dE (bt s (i+1))),.int .i64 (hJ (bt s (i+1+1))),.int .i64 0,.int .i64 0,.int .i64 0],.bool false]) (aO Tryz.results149 rfl ((Below.heap_alloc _ _ _ (by simp;omega)).trans (bk 7 (bk 6 (bk 5 (bk 4 (bk 3 (bk 2 (bk 1 (bk 0 hk3.out))))))))) Tryz.underlying219 rfl (by kernel_rfl) rfl) rfl ⟨rfl,?_,?_⟩
 ·with_reducible repeat' (first|assumption|refine Rd.alloc ?_ _|refine Rd.drewN ?_ _|refine Rd.step ?_|refine Rd.other ?_ ?_ _|(simp;omega))
 ·with_reducible repeat' (first|assumption|exact ag _ _|refine aj ?_ ?_ _|refine ab ?_ _|refine al ?_ _|refine ae ?_ (by assumption)|(right;simp;done)|(right;simp;omega)|(left;rfl))
theorem DU (s:ByteArray)(b i:Nat)(w:World)(hB:s.size≤400∧i≤400)(hr:Rd w b s i)(h0:aR (bt s i)=true)(h1:be (bt s (i+1))=true)(h2:be (bt s (db s (i+1)))=true):Calls Tryz.prog 149 #[.pointer (some ⟨b,0,none⟩)] w (RP w b s (.tuple #[.agg #[.int .i64 1,.int .i64 (bt s i - 97),.int .i64 (dy (bt s (i+1))),.int .i64 (dE (bt s (i+1))),.int .i64 (hJ (bt s (i+1+1))),.int .i64 (dy (bt s (db s (i+1)))),.int .i64 (dE (bt s (db s (i+1)))),.int .i64 (hJ (bt s (db s (i+1)+1)))],.bool true]) (db s (db s (i+1)))):=by
 have hl:=hr.lt
 have hne:w.heap.size≠b:=by omega
 have hs:=hB.1
 have hlt:=dR h0
 have hlt1:=kg h1
 obtain⟨j,hj⟩:∃ j,j=db s (i+1):=⟨_,rfl⟩
 have ex1:=fun W hW=>nE s b (i+1) W ⟨hs,by omega⟩ hW h1
 rw[←hj] at h2 hlt1 ex1 ⊢
 clear hj
 go_enter Tryz.func149,Tryz.ntmps149
 go_wp2_with fail
 go_at_call 152
 refine (fC s b i _ hB (hr.alloc _) h0).mono ?_
 rintro e w1 ⟨rfl,hr1,hg1⟩
 obtain⟨⟨hc1,hf1⟩,hn1,hzw1,hyw1,hxw1,hk1⟩:=nx hr1 hg1 (by omega)
 go_wp2_with fail
 go_at_call 156
 refine (ex1 _ (by with_reducible repeat' (first|assumption|refine Rd.alloc ?_ _|refine Rd.drewN ?_ _|refine Rd.step ?_|refine Rd.other ?_ ?_ _|(simp;omega)))).mono ?_
 rintro e w2 ⟨rfl,hr2,hg2⟩
 obtain⟨hc2,hf2⟩:=cM hg2
 have hn2:w2.heap.size≠b:=by have:=hr2.lt;omega
 have hzw2:w.heap.size<w2.heap.size:=by have:=hg2.size;(try simp at this);omega
 have hyw2:=Nat.le_of_lt hzw2
 have hxw2:=Nat.ne_of_lt hzw2
 have hk2:=af ((hg2.block w.heap.size (by (try simp);omega) (by simp;omega)).trans hk1.out)
 go_wp2_with fail
 go_at_call 156
 refine (nE s b j _ ⟨hs,by omega⟩ (by with_reducible repeat' (first|assumption|refine Rd.alloc ?_ _|refine Rd.drewN ?_ _|refine Rd.step ?_|refine Rd.other ?_ ?_ _|(simp;omega))) h2).mono ?_
 rintro e w3 ⟨rfl,hr3,hg3⟩
 obtain⟨hc3,hf3⟩:=cM hg3
 have hn3:w3.heap.size≠b:=by have:=hr3.lt;omega
 have hzw3:w.heap.size<w3.heap.size:=by have:=hg3.size;(try simp at this);omega
 have hyw3:=Nat.le_of_lt hzw3
 have hxw3:=Nat.ne_of_lt hzw3
 have hzw23:w2.heap.size<w3.heap.size:=by have:=hg3.size;(try simp at this);omega
 have hyw23:=Nat.le_of_lt hzw23
 have hxw23:=Nat.ne_of_lt hzw23
 have hk3:=af ((hg3.block w.heap.size (by (try simp);omega) (by simp;omega)).trans ((Below.heap_alloc _ _ _ hzw2).trans hk2.out))
 go_wp2
 refine bodyPost_ret (v:=.tuple #[.agg #[.int .i64 1,.int .i64 (bt s i - 97),.int .i64 (dy (bt s (i+1))),.int .i64 (dE (bt s (i+1))),.int .i64 (hJ (bt s (i+1+1))),.int .i64 (dy (bt s j)),.int .i64 (dE (bt s j)),.int .i64 (hJ (bt s (j+1)))],.bool true]) (aO Tryz.results149 rfl ((Below.heap_alloc _ _ _ (by simp;omega)).trans (bk 7 (bk 6 (bk 5 (bk 4 (bk 3 (bk 2 (bk 1 (bk 0 hk3.out))))))))) Tryz.underlying219 rfl (by kernel_rfl) rfl) rfl ⟨rfl,?_,?_⟩
 ·with_reducible repeat' (first|assumption|refine Rd.alloc ?_ _|refine Rd.drewN ?_ _|refine Rd.step ?_|refine Rd.other ?_ ?_ _|(simp;omega))
 ·with_reducible repeat' (first|assumption|exact ag _ _|refine aj ?_ ?_ _|refine ab ?_ _|refine al ?_ _|refine ae ?_ (by assumption)|(right;simp;done)|(right;simp;omega)|(left;rfl))
end Go.Proofs.YthlhbjnkohinmaaGreat
