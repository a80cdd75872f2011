import Derived.Test.YthlhbjnkohinmabGreatP00
namespace Go.Proofs.YthlhbjnkohinmabGreat
set_option maxRecDepth 100000
set_option maxHeartbeats 8000000
open Go.RowKit
theorem nG (s:ByteArray)(b i:Nat)(w:World)(hB:s.size≤400∧i≤400)(hr:Rd w b s i)(h:bg (bt s i)=true):Calls Tryz.prog 150 #[.pointer (some ⟨b,0,none⟩)] w (RP w b s (.tuple #[.agg #[.int .i64 (dw (bt s i)),.int .i64 (dD (bt s i)),.int .i64 (g9 (bt s (i+1)))],.bool true]) (da s i)):=by
 have hlt:=gq h
 have hs:=hB.1
 by_cases h1:bt s (i+1)=94
 ·have e1:g9 (bt s (i+1))=1:=by simp[g9,h1]
  have e2:da s i=i+2:=by simp[da,ff,h1]
  rw[e1,e2];exact Ec s b i w hB hr h (by omega) h1
 ·by_cases h2:bt s (i+1)=126
  ·have e1:g9 (bt s (i+1))=-1:=by simp[g9,h2]
   have e2:da s i=i+2:=by simp[da,ff,h2]
   rw[e1,e2];exact zX s b i w hB hr h (by omega) h2
  ·have e1:g9 (bt s (i+1))=0:=by simp[g9,h1,h2]
   have e3:ff (bt s (i+1))=false:=by simp[ff,h1,h2]
   have e2:da s i=i+1:=by simp[da,e3]
   rw[e1,e2];exact yc s b i w hB hr h (by omega) e3
theorem vY (s:ByteArray)(b i:Nat)(w:World)(hB:s.size≤400∧i≤400)(hr:Rd w b s i)(kind:Int)(h0:aU (bt s i)=false):Calls Tryz.prog 141 #[.pointer (some ⟨b,0,none⟩),.int .i64 kind] w (RP w b s (.tuple #[.agg #[.int .i64 0,.int .i64 0,.int .u8 0,.int .i64 0,.int .i64 0,.int .i64 0,.int .i64 0],.bool false]) (i)):=by
 have hl:=hr.lt
 have hne:w.heap.size≠b:=by omega
 have hs:=hB.1
 go_enter Tryz.func141,Tryz.ntmps141
 go_wp2_with fail
 go_at_call 146
 refine (nJ s b i _ hB (hr.alloc _) h0).mono ?_
 rintro e w1 ⟨rfl,hr1,hg1⟩
 obtain⟨⟨hc1,hf1⟩,hn1,hzw1,hyw1,hxw1,hk1⟩:=nx hr1 hg1 (by omega)
 go_wp2
 refine bodyPost_ret (v:=.tuple #[.agg #[.int .i64 0,.int .i64 0,.int .u8 0,.int .i64 0,.int .i64 0,.int .i64 0,.int .i64 0],.bool false]) (aO Tryz.results141 rfl (bl 6 (bl 5 (bl 4 (bl 3 (bl 2 (bl 1 (bl 0 hk1.out))))))) Tryz.underlying205 rfl (by kernel_rfl) rfl) rfl ⟨rfl,?_,?_⟩
 ·with_reducible repeat' (first|assumption|refine Rd.alloc ?_ _|refine Rd.drewN ?_ _|refine Rd.step ?_|refine Rd.other ?_ ?_ _|(simp;omega))
 ·with_reducible repeat' (first|assumption|exact ag _ _|refine aj ?_ ?_ _|refine ab ?_ _|refine al ?_ _|refine ae ?_ (by assumption)|(right;simp;done)|(right;simp;omega)|(left;rfl))
theorem ve (s:ByteArray)(b i:Nat)(w:World)(hB:s.size≤400∧i≤400)(hr:Rd w b s i)(kind:Int)(h0:aU (bt s i)=true)(h1:c8 (bt s (i+1))=false):Calls Tryz.prog 141 #[.pointer (some ⟨b,0,none⟩),.int .i64 kind] w (RP w b s (.tuple #[.agg #[.int .i64 0,.int .i64 0,.int .u8 0,.int .i64 0,.int .i64 0,.int .i64 0,.int .i64 0],.bool false]) (i+1)):=by
 have hl:=hr.lt
 have hne:w.heap.size≠b:=by omega
 have hs:=hB.1
 have hlt:=dR h0
 go_enter Tryz.func141,Tryz.ntmps141
 go_wp2_with fail
 go_at_call 146
 refine (fA s b i _ hB (hr.alloc _) h0).mono ?_
 rintro e w1 ⟨rfl,hr1,hg1⟩
 obtain⟨⟨hc1,hf1⟩,hn1,hzw1,hyw1,hxw1,hk1⟩:=nx hr1 hg1 (by omega)
 go_wp2_with fail
 go_at_call 147
 refine (yI s b (i+1) _ ⟨hs,by omega⟩ (by with_reducible repeat' (first|assumption|refine Rd.alloc ?_ _|refine Rd.drewN ?_ _|refine Rd.step ?_|refine Rd.other ?_ ?_ _|(simp;omega))) h1).mono ?_
 rintro e w2 ⟨rfl,hr2,hg2⟩
 obtain⟨hc2,hf2⟩:=cN hg2
 have hn2:w2.heap.size≠b:=by have:=hr2.lt;omega
 have hzw2:w.heap.size<w2.heap.size:=by have:=hg2.size;(try simp at this);omega
 have hyw2:=Nat.le_of_lt hzw2
 have hxw2:=Nat.ne_of_lt hzw2
 have hk2:=af ((hg2.block w.heap.size (by (try simp);omega) (by simp;omega)).trans hk1.out)
 go_wp2
 refine bodyPost_ret (v:=.tuple #[.agg #[.int .i64 0,.int .i64 0,.int .u8 0,.int .i64 0,.int .i64 0,.int .i64 0,.int .i64 0],.bool false]) (aO Tryz.results141 rfl ((Below.heap_alloc _ _ _ (by simp;omega)).trans (bl 6 (bl 5 (bl 4 (bl 3 (bl 2 (bl 1 (bl 0 hk2.out)))))))) Tryz.underlying205 rfl (by kernel_rfl) rfl) rfl ⟨rfl,?_,?_⟩
 ·with_reducible repeat' (first|assumption|refine Rd.alloc ?_ _|refine Rd.drewN ?_ _|refine Rd.step ?_|refine Rd.other ?_ ?_ _|(simp;omega))
 ·with_reducible repeat' (first|assumption|exact ag _ _|refine aj ?_ ?_ _|refine ab ?_ _|refine al ?_ _|refine ae ?_ (by assumption)|(right;simp;done)|(right;simp;omega)|(left;rfl))
theorem tY (s:ByteArray)(b i:Nat)(w:World)(hB:s.size≤400∧i≤400)(hr:Rd w b s i)(kind:Int)(h0:aU (bt s i)=true)(h1:c8 (bt s (i+1))=true)(h2:c8 (bt s (i+2))=false):Calls Tryz.prog 141 #[.pointer (some ⟨b,0,none⟩),.int .i64 kind] w (RP w b s (.tuple #[.agg #[.int .i64 kind,.int .i64 (bt s i - 97),.int .u8 0,.int .i64 (dw (bt s (i+1))),.int .i64 (dD (bt s (i+1))),.int .i64 0,.int .i64 0],.bool false]) (i+2)):=by
 have hl:=hr.lt
 have hne:w.heap.size≠b:=by omega
 have hs:=hB.1
 have hlt:=dR h0
 have hlt1:=lC h1
 go_enter Tryz.func141,Tryz.ntmps141
 go_wp2_with fail
 go_at_call 146
 refine (fA s b i _ hB (hr.alloc _) h0).mono ?_
 rintro e w1 ⟨rfl,hr1,hg1⟩
 obtain⟨⟨hc1,hf1⟩,hn1,hzw1,hyw1,hxw1,hk1⟩:=nx hr1 hg1 (by omega)
 go_wp2_with fail
 go_at_call 147
 refine (pt s b (i+1) _ ⟨hs,by omega⟩ (by with_reducible repeat' (first|assumption|refine Rd.alloc ?_ _|refine Rd.drewN ?_ _|refine Rd.step ?_|refine Rd.other ?_ ?_ _|(simp;omega))) h1).mono ?_
 rintro e w2 ⟨rfl,hr2,hg2⟩
 obtain⟨hc2,hf2⟩:=cN hg2
 have hn2:w2.heap.size≠b:=by have:=hr2.lt;omega
 have hzw2:w.heap.size<w2.heap.size:=by have:=hg2.size;(try simp at this);omega
 have hyw2:=Nat.le_of_lt hzw2
 have hxw2:=Nat.ne_of_lt hzw2
 have hk2:=af ((hg2.block w.heap.size (by (try simp);omega) (by simp;omega)).trans hk1.out)
 go_wp2_with fail
 go_at_call 147
 refine (yI s b (i+2) _ ⟨hs,by omega⟩ (by with_reducible repeat' (first|assumption|refine Rd.alloc ?_ _|refine Rd.drewN ?_ _|refine Rd.step ?_|refine Rd.other ?_ ?_ _|(simp;omega))) h2).mono ?_
 rintro e w3 ⟨rfl,hr3,hg3⟩
 obtain⟨hc3,hf3⟩:=cN hg3
 have hn3:w3.heap.size≠b:=by have:=hr3.lt;omega
 have hzw3:w.heap.size<w3.heap.size:=by have:=hg3.size;(try simp at this);omega
 have hyw3:=Nat.le_of_lt hzw3
 have hxw3:=Nat.ne_of_lt hzw3
 have hzw23:w2.heap.size<w3.heap.size:=by have:=hg3.size;(try simp at this);omega
 have hyw23:=Nat.le_of_lt hzw23
 have hxw23:=Nat.ne_of_lt hzw23
 have hk3:=af ((hg3.block w.heap.size (by (try simp);omega) (by simp;omega)).trans ((Below.heap_alloc _ _ _ hzw2).trans hk2.out))
 go_wp2
 refine bodyPost_ret (v:=.tuple #[.agg #[.int .i64 kind,.int .i64 (bt s i - 97),.int .u8 0,.int .i64 (dw (bt s (i+1))),.int .i64 (dD (bt s (i+1))),.int .i64 0,.int .i64 0],.bool false]) (aO Tryz.results141 rfl ((Below.heap_alloc _ _ _ (by simp;omega)).trans (bl 6 (bl 5 (bl 4 (bl 3 (bl 2 (bl 1 (bl 0 hk3.out)))))))) Tryz.underlying205 rfl (by kernel_rfl) rfl) rfl ⟨rfl,?_,?_⟩
 ·with_reducible repeat' (first|assumption|refine Rd.alloc ?_ _|refine Rd.drewN ?_ _|refine Rd.step ?_|refine Rd.other ?_ ?_ _|(simp;omega))
 ·with_reducible repeat' (first|assumption|exact ag _ _|refine aj ?_ ?_ _|refine ab ?_ _|refine al ?_ _|refine ae ?_ (by assumption)|(right;simp;done)|(right;simp;omega)|(left;rfl))
theorem vW (s:ByteArray)(b i:Nat)(w:World)(hB:s.size≤400∧i≤400)(hr:Rd w b s i)(kind:Int)(h0:aU (bt s i)=true)(h1:c8 (bt s (i+1))=true)(h2:c8 (bt s (i+2))=true):Calls Tryz.prog 141 #[.pointer (some ⟨b,0,none⟩),.int .i64 kind] w (RP w b s (.tuple #[.agg #[.int .i64 kind,.int .i64 (bt s i - 97),.int .u8 0,.int .i64 (dw (bt s (i+1))),.int .i64 (dD (bt s (i+1))),.int .i64 (dw (bt s (i+2))),.int .i64 (dD (bt s (i+2)))],.bool true]) (i+3)):=by
 have hl:=hr.lt
 have hne:w.heap.size≠b:=by omega
 have hs:=hB.1
 have hlt:=dR h0
 have hlt1:=lC h1
 go_enter Tryz.func141,Tryz.ntmps141
 go_wp2_with fail
 go_at_call 146
 refine (fA s b i _ hB (hr.alloc _) h0).mono ?_
 rintro e w1 ⟨rfl,hr1,hg1⟩
 obtain⟨⟨hc1,hf1⟩,hn1,hzw1,hyw1,hxw1,hk1⟩:=nx hr1 hg1 (by omega)
 go_wp2_with fail
 go_at_call 147
 refine (pt s b (i+1) _ ⟨hs,by omega⟩ (by with_reducible repeat' (first|assumption|refine Rd.alloc ?_ _|refine Rd.drewN ?_ _|refine Rd.step ?_|refine Rd.other ?_ ?_ _|(simp;omega))) h1).mono ?_
 rintro e w2 ⟨rfl,hr2,hg2⟩
 obtain⟨hc2,hf2⟩:=cN hg2
 have hn2:w2.heap.size≠b:=by have:=hr2.lt;omega
 have hzw2:w.heap.size<w2.heap.size:=by have:=hg2.size;(try simp at this);omega
 have hyw2:=Nat.le_of_lt hzw2
 have hxw2:=Nat.ne_of_lt hzw2
 have hk2:=af ((hg2.block w.heap.size (by (try simp);omega) (by simp;omega)).trans hk1.out)
 go_wp2_with fail
 go_at_call 147
 refine (pt s b (i+2) _ ⟨hs,by omega⟩ (by with_reducible repeat' (first|assumption|refine Rd.alloc ?_ _|refine Rd.drewN ?_ _|refine Rd.step ?_|refine Rd.other ?_ ?_ _|(simp;omega))) h2).mono ?_
 rintro e w3 ⟨rfl,hr3,hg3⟩
 obtain⟨hc3,hf3⟩:=cN hg3
 have hn3:w3.heap.size≠b:=by have:=hr3.lt;omega
 have hzw3:w.heap.size<w3.heap.size:=by have:=hg3.size;(try simp at this);omega
 have hyw3:=Nat.le_of_lt hzw3
 have hxw3:=Nat.ne_of_lt hzw3
 have hzw23:w2.heap.size<w3.heap.size:=by have:=hg3.size;(try simp at this);omega
 have hyw23:=Nat.le_of_lt hzw23
 have hxw23:=Nat.ne_of_lt hzw23
 have hk3:=af ((hg3.block w.heap.size (by (try simp);omega) (by simp;omega)).trans ((Below.heap_alloc _ _ _ hzw2).trans hk2.out))
 go_wp2
 refine bodyPost_ret (v:=.tuple #[.agg #[.int .i64 kind,.int .i64 (bt s i - 97),.int .u8 0,.int .i64 (dw (bt s (i+1))),.int .i64 (dD (bt s (i+1))),.int .i64 (dw (bt s (i+2))),.int .i64 (dD (bt s (i+2)))],.bool true]) (aO Tryz.results141 rfl ((Below.heap_alloc _ _ _ (by simp;omega)).trans (bl 6 (bl 5 (bl 4 (bl 3 (bl 2 (bl 1 (bl 0 hk3.out)))))))) Tryz.underlying205 rfl (by kernel_rfl) rfl) rfl ⟨rfl,?_,?_⟩
 ·with_reducible repeat' (first|assumption|refine Rd.alloc ?_ _|refine Rd.drewN ?_ _|refine Rd.step ?_|refine Rd.other ?_ ?_ _|(simp;omega))
 ·with_reducible repeat' (first|assumption|exact ag _ _|refine aj ?_ ?_ _|refine ab ?_ _|refine al ?_ _|refine ae ?_ (by assumption)|(right;simp;done)|(right;simp;omega)|(left;rfl))
theorem Dy (s:ByteArray)(b i:Nat)(w:World)(hB:s.size≤400∧i≤400)(hr:Rd w b s i)(h0:bg (bt s i)=false):Calls Tryz.prog 142 #[.pointer (some ⟨b,0,none⟩)] w (RP w b s (.tuple #[.agg #[.int .i64 0,.int .i64 0,.int .u8 0,.int .i64 0,.int .i64 0,.int .i64 0,.int .i64 0],.bool false]) (i)):=by
 have hl:=hr.lt
 have hne:w.heap.size≠b:=by omega
 have hs:=hB.1
 go_enter Tryz.func142,Tryz.ntmps142
 go_wp2_with fail
 go_at_call 148
 refine (kj s b i _ hB (hr.alloc _) h0).mono ?_
 rintro e w1 ⟨rfl,hr1,hg1⟩
 obtain⟨⟨hc1,hf1⟩,hn1,hzw1,hyw1,hxw1,hk1⟩:=nx hr1 hg1 (by omega)
 go_wp2
 refine bodyPost_ret (v:=.tuple #[.agg #[.int .i64 0,.int .i64 0,.int .u8 0,.int .i64 0,.int .i64 0,.int .i64 0,.int .i64 0],.bool false]) (aO Tryz.results142 rfl ((Below.heap_alloc _ _ _ (by simp;omega)).trans (bl 6 (bl 5 (bl 4 (bl 3 (bl 2 (bl 1 (bl 0 hk1.out)))))))) Tryz.underlying205 rfl (by kernel_rfl) rfl) rfl ⟨rfl,?_,?_⟩
 ·with_reducible repeat' (first|assumption|refine Rd.alloc ?_ _|refine Rd.drewN ?_ _|refine Rd.step ?_|refine Rd.other ?_ ?_ _|(simp;omega))
 ·with_reducible repeat' (first|assumption|exact ag _ _|refine aj ?_ ?_ _|refine ab ?_ _|refine al ?_ _|refine ae ?_ (by assumption)|(right;simp;done)|(right;simp;omega)|(left;rfl))
theorem CG (s:ByteArray)(b i:Nat)(w:World)(hB:s.size≤400∧i≤400)(hr:Rd w b s i)(h0:bg (bt s i)=true)(h1:gI (bt s (i+1))=false):Calls Tryz.prog 142 #[.pointer (some ⟨b,0,none⟩)] w (RP w b s (.tuple #[.agg #[.int .i64 0,.int .i64 0,.int .u8 0,.int .i64 0,.int .i64 0,.int .i64 0,.int .i64 0],.bool false]) (i+1)):=by
 have hl:=hr.lt
 have hne:w.heap.size≠b:=by omega
 have hs:=hB.1
 have hlt:=gq h0
 go_enter Tryz.func142,Tryz.ntmps142
 go_wp2_with fail
 go_at_call 148
 refine (eD s b i _ hB (hr.alloc _) h0).mono ?_
 rintro e w1 ⟨rfl,hr1,hg1⟩
 obtain⟨⟨hc1,hf1⟩,hn1,hzw1,hyw1,hxw1,hk1⟩:=nx hr1 hg1 (by omega)
 go_wp2_with fail
 go_at_call 149
 refine (Fg s b (i+1) _ ⟨hs,by omega⟩ (by with_reducible repeat' (first|assumption|refine Rd.alloc ?_ _|refine Rd.drewN ?_ _|refine Rd.step ?_|refine Rd.other ?_ ?_ _|(simp;omega))) h1).mono ?_
 rintro e w2 ⟨rfl,hr2,hg2⟩
 obtain⟨hc2,hf2⟩:=cN hg2
 have hn2:w2.heap.size≠b:=by have:=hr2.lt;omega
 have hzw2:w.heap.size<w2.heap.size:=by have:=hg2.size;(try simp at this);omega
 have hyw2:=Nat.le_of_lt hzw2
 have hxw2:=Nat.ne_of_lt hzw2
 have hzw12:w1.heap.size<w2.heap.size:=by have:=hg2.size;(try simp at this);omega
 have hyw12:=Nat.le_of_lt hzw12
 have hxw12:=Nat.ne_of_lt hzw12
 have hk2:=af ((hg2.block w.heap.size (by (try simp);omega) (by simp;omega)).trans ((Below.heap_alloc _ _ _ hzw1).trans hk1.out))
 go_wp2
 refine bodyPost_ret (v:=.tuple #[.agg #[.int .i64 0,.int .i64 0,.int .u8 0,.int .i64 0,.int .i64 0,.int .i64 0,.int .i64 0],.bool false]) (aO Tryz.results142 rfl (bl 6 (bl 5 (bl 4 (bl 3 (bl 2 (bl 1 (bl 0 hk2.out))))))) Tryz.underlying205 rfl (by kernel_rfl) rfl) rfl ⟨rfl,?_,?_⟩
 ·with_reducible repeat' (first|assumption|refine Rd.alloc ?_ _|refine Rd.drewN ?_ _|refine Rd.step ?_|refine Rd.other ?_ ?_ _|(simp;omega))
 ·with_reducible repeat' (first|assumption|exact ag _ _|refine aj ?_ ?_ _|refine ab ?_ _|refine al ?_ _|refine ae ?_ (by assumption)|(right;simp;done)|(right;simp;omega)|(left;rfl))
theorem BZ (s:ByteArray)(b i:Nat)(w:World)(hB:s.size≤400∧i≤400)(hr:Rd w b s i)(h0:bg (bt s i)=true)(h1:gI (bt s (i+1))=true)(h2:bg (bt s (i+2))=false):Calls Tryz.prog 142 #[.pointer (some ⟨b,0,none⟩)] w (RP w b s (.tuple #[.agg #[.int .i64 3,.int .i64 0,.int .u8 (bt s (i+1)),.int .i64 (dw (bt s i)),.int .i64 (dD (bt s i)),.int .i64 0,.int .i64 0],.bool false]) (i+2)):=by
 have hl:=hr.lt
 have hne:w.heap.size≠b:=by omega
 have hs:=hB.1
 have hlt:=gq h0
 have hlt1:=on h1
 go_enter Tryz.func142,Tryz.ntmps142
 go_wp2_with fail
 go_at_call 148
 refine (eD s b i _ hB (hr.alloc _) h0).mono ?_
 rintro e w1 ⟨rfl,hr1,hg1⟩
 obtain⟨⟨hc1,hf1⟩,hn1,hzw1,hyw1,hxw1,hk1⟩:=nx hr1 hg1 (by omega)
 go_wp2_with fail
 go_at_call 149
 refine (uI s b (i+1) _ ⟨hs,by omega⟩ (by with_reducible repeat' (first|assumption|refine Rd.alloc ?_ _|refine Rd.drewN ?_ _|refine Rd.step ?_|refine Rd.other ?_ ?_ _|(simp;omega))) h1).mono ?_
 rintro e w2 ⟨rfl,hr2,hg2⟩
 obtain⟨hc2,hf2⟩:=cN hg2
 have hn2:w2.heap.size≠b:=by have:=hr2.lt;omega
 have hzw2:w.heap.size<w2.heap.size:=by have:=hg2.size;(try simp at this);omega
 have hyw2:=Nat.le_of_lt hzw2
 have hxw2:=Nat.ne_of_lt hzw2
 have hzw12:w1.heap.size<w2.heap.size:=by have:=hg2.size;(try simp at this);omega
 have hyw12:=Nat.le_of_lt hzw12
 have hxw12:=Nat.ne_of_lt hzw12
 have hk2:=af ((hg2.block w.heap.size (by (try simp);omega) (by simp;omega)).trans ((Below.heap_alloc _ _ _ hzw1).trans hk1.out))
 go_wp2_with fail
 go_at_call 148
 refine (kj s b (i+2) _ ⟨hs,by omega⟩ (by with_reducible repeat' (first|assumption|refine Rd.alloc ?_ _|refine Rd.drewN ?_ _|refine Rd.step ?_|refine Rd.other ?_ ?_ _|(simp;omega))) h2).mono ?_
 rintro e w3 ⟨rfl,hr3,hg3⟩
 obtain⟨hc3,hf3⟩:=cN hg3
 have hn3:w3.heap.size≠b:=by have:=hr3.lt;omega
 have hzw3:w.heap.size<w3.heap.size:=by have:=hg3.size;(try simp at this);omega
 have hyw3:=Nat.le_of_lt hzw3
 have hxw3:=Nat.ne_of_lt hzw3
 have hzw13:w1.heap.size<w3.heap.size:=by have:=hg3.size;(try simp at this);omega
 have hyw13:=Nat.le_of_lt hzw13
 have hxw13:=Nat.ne_of_lt hzw13
 have hk3:=af ((hg3.block w.heap.size (by (try simp);omega) (by simp;omega)).trans hk2.out)
 go_wp2
 refine bodyPost_ret (v:=.tuple #[.agg #[.int .i64 3,.int .i64 0,.int .u8 (bt s (i+1)),.int .i64 (dw (bt s i)),.int .i64 (dD (bt s i)),.int .i64 0,.int .i64 0],.bool false]) (aO Tryz.results142 rfl ((Below.heap_alloc _ _ _ (by simp;omega)).trans (bl 6 (bl 5 (bl 4 (bl 3 (bl 2 (bl 1 (bl 0 hk3.out)))))))) Tryz.underlying205 rfl (by kernel_rfl) rfl) rfl ⟨rfl,?_,?_⟩
 ·with_reducible repeat' (first|assumption|refine Rd.alloc ?_ _|refine Rd.drewN ?_ _|refine Rd.step ?_|refine Rd.other ?_ ?_ _|(simp;omega))
 ·with_reducible repeat' (first|assumption|exact ag _ _|refine aj ?_ ?_ _|refine ab ?_ _|refine al ?_ _|refine ae ?_ (by assumption)|(right;simp;done)|(right;simp;omega)|(left;rfl))
theorem C2 (s:ByteArray)(b i:Nat)(w:World)(hB:s.size≤400∧i≤400)(hr:Rd w b s i)(h0:bg (bt s i)=true)(h1:gI (bt s (i+1))=true)(h2:bg (bt s (i+2))=true):Calls Tryz.prog 142 #[.pointer (some ⟨b,0,none⟩)] w (RP w b s (.tuple #[.agg #[.int .i64 3,.int .i64 0,.int .u8 (bt s (i+1)),.int .i64 (dw (bt s i)),.int .i64 (dD (bt s i)),.int .i64 (dw (bt s (i+2))),.int .i64 (dD (bt s (i+2)))],.bool true]) (i+3)):=by
 have hl:=hr.lt
 have hne:w.heap.size≠b:=by omega
 have hs:=hB.1
 have hlt:=gq h0
 have hlt1:=on h1
 go_enter Tryz.func142,Tryz.ntmps142
 go_wp2_with fail
 go_at_call 148
 refine (eD s b i _ hB (hr.alloc _) h0).mono ?_
 rintro e w1 ⟨rfl,hr1,hg1⟩
 obtain⟨⟨hc1,hf1⟩,hn1,hzw1,hyw1,hxw1,hk1⟩:=nx hr1 hg1 (by omega)
 go_wp2_with fail
 go_at_call 149
 refine (uI s b (i+1) _ ⟨hs,by omega⟩ (by with_reducible repeat' (first|assumption|refine Rd.alloc ?_ _|refine Rd.drewN ?_ _|refine Rd.step ?_|refine Rd.other ?_ ?_ _|(simp;omega))) h1).mono ?_
 rintro e w2 ⟨rfl,hr2,hg2⟩
 obtain⟨hc2,hf2⟩:=cN hg2
 have hn2:w2.heap.size≠b:=by have:=hr2.lt;omega
 have hzw2:w.heap.size<w2.heap.size:=by have:=hg2.size;(try simp at this);omega
 have hyw2:=Nat.le_of_lt hzw2
 have hxw2:=Nat.ne_of_lt hzw2
 have hzw12:w1.heap.size<w2.heap.size:=by have:=hg2.size;(try simp at this);omega
 have hyw12:=Nat.le_of_lt hzw12
 have hxw12:=Nat.ne_of_lt hzw12
 have hk2:=af ((hg2.block w.heap.size (by (try simp);omega) (by simp;omega)).trans ((Below.heap_alloc _ _ _ hzw1).trans hk1.out))
 go_wp2_with fail
 go_at_call 148
 refine (eD s b (i+2) _ ⟨hs,by omega⟩ (by with_reducible repeat' (first|assumption|refine Rd.alloc ?_ _|refine Rd.drewN ?_ _|refine Rd.step ?_|refine Rd.other ?_ ?_ _|(simp;omega))) h2).mono ?_
 rintro e w3 ⟨rfl,hr3,hg3⟩
 obtain⟨hc3,hf3⟩:=cN hg3
 have hn3:w3.heap.size≠b:=by have:=hr3.lt;omega
 have hzw3:w.heap.size<w3.heap.size:=by have:=hg3.size;(try simp at this);omega
 have hyw3:=Nat.le_of_lt hzw3
 have hxw3:=Nat.ne_of_lt hzw3
 have hzw13:w1.heap.size<w3.heap.size:=by have:=hg3.size;(try simp at this);omega
 have hyw13:=Nat.le_of_lt hzw13
 have hxw13:=Nat.ne_of_lt hzw13
 have hk3:=af ((hg3.block w.heap.size (by (try simp);omega) (by simp;omega)).trans hk2.out)
 go_wp2
 refine bodyPost_ret (v:=.tuple #[.agg #[.int .i64 3,.int .i64 0,.int .u8 (bt s (i+1)),.int .i64 (dw (bt s i)),.int .i64 (dD (bt s i)),.int .i64 (dw (bt s (i+2))),.int .i64 (dD (bt s (i+2)))],.bool true]) (aO Tryz.results142 rfl ((Below.heap_alloc _ _ _ (by simp;omega)).trans (bl 6 (bl 5 (bl 4 (bl 3 (bl 2 (bl 1 (bl 0 hk3.out)))))))) Tryz.underlying205 rfl (by kernel_rfl) rfl) rfl ⟨rfl,?_,?_⟩
 ·with_reducible repeat' (first|assumption|refine Rd.alloc ?_ _|refine Rd.drewN ?_ _|refine Rd.step ?_|refine Rd.other ?_ ?_ _|(simp;omega))
 ·with_reducible repeat' (first|assumption|exact ag _ _|refine aj ?_ ?_ _|refine ab ?_ _|refine al ?_ _|refine ae ?_ (by assumption)|(right;simp;done)|(right;simp;omega)|(left;rfl))
theorem AE (s:ByteArray)(b i:Nat)(w:World)(hB:s.size≤400∧i≤400)(hr:Rd w b s i)(h0:aU (bt s i)=false):Calls Tryz.prog 144 #[.pointer (some ⟨b,0,none⟩)] w (RP w b s (.tuple #[.agg #[.int .i64 0,.int .i64 0,.int .i64 0,.int .i64 0,.int .i64 0,.int .i64 0,.int .i64 0,.int .i64 0],.bool false]) (i)):=by
 have hl:=hr.lt
 have hne:w.heap.size≠b:=by omega
 have hs:=hB.1
 go_enter Tryz.func144,Tryz.ntmps144
 go_wp2_with fail
 go_at_call 146
 refine (nJ s b i _ hB (hr.alloc _) h0).mono ?_
 rintro e w1 ⟨rfl,hr1,hg1⟩
 obtain⟨⟨hc1,hf1⟩,hn1,hzw1,hyw1,hxw1,hk1⟩:=nx hr1 hg1 (by omega)
 go_wp2
 refine bodyPost_ret (v:=.tuple #[.agg #[.int .i64 0,.int .i64 0,.int .i64 0,.int .i64 0,.int .i64 0,.int .i64 0,.int .i64 0,.int .i64 0],.bool false]) (aO Tryz.results144 rfl (bl 7 (bl 6 (bl 5 (bl 4 (bl 3 (bl 2 (bl 1 (bl 0 hk1.out)))))))) Tryz.underlying218 rfl (by kernel_rfl) rfl) rfl ⟨rfl,?_,?_⟩
 ·with_reducible repeat' (first|assumption|refine Rd.alloc ?_ _|refine Rd.drewN ?_ _|refine Rd.step ?_|refine Rd.other ?_ ?_ _|(simp;omega))
 ·with_reducible repeat' (first|assumption|exact ag _ _|refine aj ?_ ?_ _|refine ab ?_ _|refine al ?_ _|refine ae ?_ (by assumption)|(right;simp;done)|(right;simp;omega)|(left;rfl))
theorem Av (s:ByteArray)(b i:Nat)(w:World)(hB:s.size≤400∧i≤400)(hr:Rd w b s i)(h0:aU (bt s i)=true)(h1:bg (bt s (i+1))=false):Calls Tryz.prog 144 #[.pointer (some ⟨b,0,none⟩)] w (RP w b s (.tuple #[.agg #[.int .i64 2,.int .i64 (bt s i - 97),.int .i64 0,.int .i64 0,.int .i64 0,.int .i64 0,.int .i64 0,.int .i64 0],.bool false]) (i+1)):=by
 have hl:=hr.lt
 have hne:w.heap.size≠b:=by omega
 have hs:=hB.1
 have hlt:=dR h0
 go_enter Tryz.func144,Tryz.ntmps144
 go_wp2_with fail
 go_at_call 146
 refine (fA s b i _ hB (hr.alloc _) h0).mono ?_
 rintro e w1 ⟨rfl,hr1,hg1⟩
 obtain⟨⟨hc1,hf1⟩,hn1,hzw1,hyw1,hxw1,hk1⟩:=nx hr1 hg1 (by omega)
 go_wp2_with fail
 go_at_call 150
 refine (sY s b (i+1) _ ⟨hs,by omega⟩ (by with_reducible repeat' (first|assumption|refine Rd.alloc ?_ _|refine Rd.drewN ?_ _|refine Rd.step ?_|refine Rd.other ?_ ?_ _|(simp;omega))) h1).mono ?_
 rintro e w2 ⟨rfl,hr2,hg2⟩
 obtain⟨hc2,hf2⟩:=cN hg2
 have hn2:w2.heap.size≠b:=by have:=hr2.lt;omega
 have hzw2:w.heap.size<w2.heap.size:=by have:=hg2.size;(try simp at this);omega
 have hyw2:=Nat.le_of_lt hzw2
 have hxw2:=Nat.ne_of_lt hzw2
 have hk2:=af ((hg2.block w.heap.size (by (try simp);omega) (by simp;omega)).trans hk1.out)
 go_wp2
 refine bodyPost_ret (v:=.tuple #[.agg #[.int .i64 2,.int .i64 (bt s i - 97),.int .i64 0,.int .i64 0,.int .i64 0,.int .i64 0,.int .i64 0,.int .i64 0],.bool false]) (aO Tryz.results144 rfl ((Below.heap_alloc _ _ _ (by simp;omega)).trans (bl 7 (bl 6 (bl 5 (bl 4 (bl 3 (bl 2 (bl 1 (bl 0 hk2.out))))))))) Tryz.underlying218 rfl (by kernel_rfl) rfl) rfl ⟨rfl,?_,?_⟩
 ·with_reducible repeat' (first|assumption|refine Rd.alloc ?_ _|refine Rd.drewN ?_ _|refine Rd.step ?_|refine Rd.other ?_ ?_ _|(simp;omega))
 ·with_reducible repeat' (first|assumption|exact ag _ _|refine aj ?_ ?_ _|refine ab ?_ _|refine al ?_ _|refine ae ?_ (by assumption)|(right;simp;done)|(right;simp;omega)|(left;rfl))
theorem Be (s:ByteArray)(b i:Nat)(w:World)(hB:s.size≤400∧i≤400)(hr:Rd w b s i)(h0:aU (bt s i)=true)(h1:bg (bt s (i+1))=true):Calls Tryz.prog 144 #[.pointer (some ⟨b,0,none⟩)] w (RP w b s (.tuple #[.agg #[.int .i64 2,.int .i64 (bt s i - 97),.int .i64 (dw (bt s (i+1))),.int .i64 (dD (bt s (i+1))),.int .i64 (g9 (bt s (i+1+1))),.int .i64 0,.int .i64 0,.int .i64 0],.bool true]) (da s (i+1))):=by
 have hl:=hr.lt
 have hne:w.heap.size≠b:=by omega
 have hs:=hB.1
 have hlt:=dR h0
 go_enter Tryz.func144,Tryz.ntmps144
 go_wp2_with fail
 go_at_call 146
 refine (fA s b i _ hB (hr.alloc _) h0).mono ?_
 rintro e w1 ⟨rfl,hr1,hg1⟩
 obtain⟨⟨hc1,hf1⟩,hn1,hzw1,hyw1,hxw1,hk1⟩:=nx hr1 hg1 (by omega)
 go_wp2_with fail
 go_at_call 150
 refine (nG s b (i+1) _ ⟨hs,by omega⟩ (by with_reducible repeat' (first|assumption|refine Rd.alloc ?_ _|refine Rd.drewN ?_ _|refine Rd.step ?_|refine Rd.other ?_ ?_ _|(simp;omega))) h1).mono ?_
 rintro e w2 ⟨rfl,hr2,hg2⟩
 obtain⟨hc2,hf2⟩:=cN hg2
 have hn2:w2.heap.size≠b:=by have:=hr2.lt;omega
 have hzw2:w.heap.size<w2.heap.size:=by have:=hg2.size;(try simp at this);omega
 have hyw2:=Nat.le_of_lt hzw2
 have hxw2:=Nat.ne_of_lt hzw2
 have hk2:=af ((hg2.block w.heap.size (by (try simp);omega) (by simp;omega)).trans hk1.out)
 go_wp2
 refine bodyPost_ret (v:=.tuple #[.agg #[.int .i64 2,.int .i64 (bt s i - 97),.int .i64 (dw (bt s (i+1))),.int .i64 (dD (bt s (i+1))),.int .i64 (g9 (bt s (i+1+1))),.int .i64 0,.int .i64 0,.int .i64 0],.bool true]) (aO Tryz.results144 rfl ((Below.heap_alloc _ _ _ (by simp;omega)).trans (bl 7 (bl 6 (bl 5 (bl 4 (bl 3 (bl 2 (bl 1 (bl 0 hk2.out))))))))) Tryz.underlying218 rfl (by kernel_rfl) rfl) rfl ⟨rfl,?_,?_⟩
 ·with_reducible repeat' (first|assumption|refine Rd.alloc ?_ _|refine Rd.drewN ?_ _|refine Rd.step ?_|refine Rd.other ?_ ?_ _|(simp;omega))
 ·with_reducible repeat' (first|assumption|exact ag _ _|refine aj ?_ ?_ _|refine ab ?_ _|refine al ?_ _|refine ae ?_ (by assumption)|(right;simp;done)|(right;simp;omega)|(left;rfl))
theorem C7 (s:ByteArray)(b i:Nat)(w:World)(hB:s.size≤400∧i≤400)(hr:Rd w b s i)(h0:aU (bt s i)=false):Calls Tryz.prog 143 #[.pointer (some ⟨b,0,none⟩)] w (RP w b s (.tuple #[.agg #[.int .i64 0,.int .i64 0,.int .i64 0,.int .i64 0,.int .i64 0,.int .i64 0,.int .i64 0,.int .i64 0],.bool false]) (i)):=by
 have hl:=hr.lt
 have hne:w.heap.size≠b:=by omega
 have hs:=hB.1
 go_enter Tryz.func143,Tryz.ntmps143
 go_wp2_with fail
 go_at_call 146
 refine (nJ s b i _ hB (hr.alloc _) h0).mono ?_
 rintro e w1 ⟨rfl,hr1,hg1⟩
 obtain⟨⟨hc1,hf1⟩,hn1,hzw1,hyw1,hxw1,hk1⟩:=nx hr1 hg1 (by omega)
 go_wp2
 refine bodyPost_ret (v:=.tuple #[.agg #[.int .i64 0,.int .i64 0,.int .i64 0,.int .i64 0,.int .i64 0,.int .i64 0,.int .i64 0,.int .i64 0],.bool false]) (aO Tryz.results143 rfl (bl 7 (bl 6 (bl 5 (bl 4 (bl 3 (bl 2 (bl 1 (bl 0 hk1.out)))))))) Tryz.underlying218 rfl (by kernel_rfl) rfl) rfl ⟨rfl,?_,?_⟩
 ·with_reducible repeat' (first|assumption|refine Rd.alloc ?_ _|refine Rd.drewN ?_ _|refine Rd.step ?_|refine Rd.other ?_ ?_ _|(simp;omega))
 ·with_reducible repeat' (first|assumption|exact ag _ _|refine aj ?_ ?_ _|refine ab ?_ _|refine al ?_ _|refine ae ?_ (by assumption)|(right;simp;done)|(right;simp;omega)|(left;rfl))
theorem Ci (s:ByteArray)(b i:Nat)(w:World)(hB:s.size≤400∧i≤400)(hr:Rd w b s i)(h0:aU (bt s i)=true)(h1:bg (bt s (i+1))=false):Calls Tryz.prog 143 #[.pointer (some ⟨b,0,none⟩)] w (RP w b s (.tuple #[.agg #[.int .i64 0,.int .i64 0,.int .i64 0,.int .i64 0,.int .i64 0,.int .i64 0,.int .i64 0,.int .i64 0],.bool false]) (i+1)):=by
 have hl:=hr.lt
 have hne:w.heap.size≠b:=by omega
 have hs:=hB.1
 have hlt:=dR h0
 go_enter Tryz.func143,Tryz.ntmps143
 go_wp2_with fail
 go_at_call 146
 refine (fA s b i _ hB (hr.alloc _) h0).mono ?_
 rintro e w1 ⟨rfl,hr1,hg1⟩
 obtain⟨⟨hc1,hf1⟩,hn1,hzw1,hyw1,hxw1,hk1⟩:=nx hr1 hg1 (by omega)
 go_wp2_with fail
 go_at_call 150
 refine (sY s b (i+1) _ ⟨hs,by omega⟩ (by with_reducible repeat' (first|assumption|refine Rd.alloc ?_ _|refine Rd.drewN ?_ _|refine Rd.step ?_|refine Rd.other ?_ ?_ _|(simp;omega))) h1).mono ?_
 rintro e w2 ⟨rfl,hr2,hg2⟩
 obtain⟨hc2,hf2⟩:=cN hg2
 have hn2:w2.heap.size≠b:=by have:=hr2.lt;omega
 have hzw2:w.heap.size<w2.heap.size:=by have:=hg2.size;(try simp at this);omega
 have hyw2:=Nat.le_of_lt hzw2
 have hxw2:=Nat.ne_of_lt hzw2
 have hk2:=af ((hg2.block w.heap.size (by (try simp);omega) (by simp;omega)).trans hk1.out)
 go_wp2
 refine bodyPost_ret (v:=.tuple #[.agg #[.int .i64 0,.int .i64 0,.int .i64 0,.int .i64 0,.int .i64 0,.int .i64 0,.int .i64 0,.int .i64 0],.bool false]) (aO Tryz.results143 rfl ((Below.heap_alloc _ _ _ (by simp;omega)).trans (bl 7 (bl 6 (bl 5 (bl 4 (bl 3 (bl 2 (bl 1 (bl 0 hk2.out))))))))) Tryz.underlying218 rfl (by kernel_rfl) rfl) rfl ⟨rfl,?_,?_⟩
 ·with_reducible repeat' (first|assumption|refine Rd.alloc ?_ _|refine Rd.drewN ?_ _|refine Rd.step ?_|refine Rd.other ?_ ?_ _|(simp;omega))
 ·with_reducible repeat' (first|assumption|exact ag _ _|refine aj ?_ ?_ _|refine ab ?_ _|refine al ?_ _|refine ae ?_ (by assumption)|(right;simp;done)|(right;simp;omega)|(left;rfl))
theorem DC (s:ByteArray)(b i:Nat)(w:World)(hB:s.size≤400∧i≤400)(hr:Rd w b s i)(h0:aU (bt s i)=true)(h1:bg (bt s (i+1))=true)(h2:bg (bt s (da s (i+1)))=false):Calls Tryz.prog 143 #[.pointer (some ⟨b,0,none⟩)] w (RP w b s (.tuple #[.agg #[.int .i64 1,.int .i64 (bt s i - 97),.int .i64 (dw (bt s (i+1))),.int .i64 (dD (bt s (i+1))),.int .i64 (g9 (bt s (i+1+1))),.int .i64 0,.int .i64 0,.int .i64 0],.bool false]) (da s (i+1))):=by
 have hl:=hr.lt
 have hne:w.heap.size≠b:=by omega
 have hs:=hB.1
 have hlt:=dR h0
 have hlt1:=kf h1
 obtain⟨j,hj⟩:∃ j,j=da s (i+1):=⟨_,rfl⟩
 have ex1:=fun W hW=>nG s b (i+1) W ⟨hs,by omega⟩ hW h1
 rw[←hj] at h2 hlt1 ex1 ⊢
 clear hj
 go_enter Tryz.func143,Tryz.ntmps143
 go_wp2_with fail
 go_at_call 146
 refine (fA s b i _ hB (hr.alloc _) h0).mono ?_
 rintro e w1 ⟨rfl,hr1,hg1⟩
 obtain⟨⟨hc1,hf1⟩,hn1,hzw1,hyw1,hxw1,hk1⟩:=nx hr1 hg1 (by omega)
 go_wp2_with fail
 go_at_call 150
 refine (ex1 _ (by with_reducible repeat' (first|assumption|refine Rd.alloc ?_ _|refine Rd.drewN ?_ _|refine Rd.step ?_|refine Rd.other ?_ ?_ _|(simp;omega)))).mono ?_
 rintro e w2 ⟨rfl,hr2,hg2⟩
 obtain⟨hc2,hf2⟩:=cN hg2
 have hn2:w2.heap.size≠b:=by have:=hr2.lt;omega
 have hzw2:w.heap.size<w2.heap.size:=by have:=hg2.size;(try simp at this);omega
 have hyw2:=Nat.le_of_lt hzw2
 have hxw2:=Nat.ne_of_lt hzw2
 have hk2:=af ((hg2.block w.heap.size (by (try simp);omega) (by simp;omega)).trans hk1.out)
 go_wp2_with fail
 go_at_call 150
 refine (sY s b j _ ⟨hs,by omega⟩ (by with_reducible repeat' (first|assumption|refine Rd.alloc ?_ _|refine Rd.drewN ?_ _|refine Rd.step ?_|refine Rd.other ?_ ?_ _|(simp;omega))) h2).mono ?_
 rintro e w3 ⟨rfl,hr3,hg3⟩
 obtain⟨hc3,hf3⟩:=cN hg3
 have hn3:w3.heap.size≠b:=by have:=hr3.lt;omega
 have hzw3:w.heap.size<w3.heap.size:=by have:=hg3.size;(try simp at this);omega
 have hyw3:=Nat.le_of_lt hzw3
 have hxw3:=Nat.ne_of_lt hzw3
 have hzw23:w2.heap.size<w3.heap.size:=by have:=hg3.size;(try simp at this);omega
 have hyw23:=Nat.le_of_lt hzw23
 have hxw23:=Nat.ne_of_lt hzw23
 have hk3:=af ((hg3.block w.heap.size (by (try simp);omega) (by simp;omega)).trans ((Below.heap_alloc _ _ _ hzw2).trans hk2.out))
 go_wp2
 refine bodyPost_ret (v:=.tuple #[.agg #[.int .i64 1,.int .i64 (bt s i - 97),.int .i64 (dw (bt s (i+1))),.int .i64 (dD (bt s (i+1))),.int .i64 (g9 (bt s (i+1+1))),.int .i64 0,.int .i64 0,.int .i64 0],.bool false]) (aO Tryz.results143 rfl ((Below.heap_alloc _ _ _ (by simp;omega)).trans (bl 7 (bl 6 (bl 5 (bl 4 (bl 3 (bl 2 (bl 1 (bl 0 hk3.out))))))))) Tryz.underlying218 rfl (by kernel_rfl) rfl) rfl ⟨rfl,?_,?_⟩
 ·with_reducible repeat' (first|assumption|refine Rd.alloc ?_ _|refine Rd.drewN ?_ _|refine Rd.step ?_|refine Rd.other ?_ ?_ _|(simp;omega))
 ·with_reducible repeat' (first|assumption|exact ag _ _|refine aj ?_ ?_ _|refine ab ?_ _|refine al ?_ _|refine ae ?_ (by assumption)|(right;simp;done)|(right;simp;omega)|(left;rfl))
theorem DS (s:ByteArray)(b i:Nat)(w:World)(hB:s.size≤400∧i≤400)(hr:Rd w b s i)(h0:aU (bt s i)=true)(h1:bg (bt s (i+1))=true)(h2:bg (bt s (da s (i+1)))=true):Calls Tryz.prog 143 #[.pointer (some ⟨b,0,none⟩)] w (RP w b s (.tuple #[.agg #[.int .i64 1,.int .i64 (bt s i - 97),.int .i64 (dw (bt s (i+1))),.int .i64 (dD (bt s (i+1))),.int .i64 (g9 (bt s (i+1+1))),.int .i64 (dw (bt s (da s (i+1)))),.int .i64 (dD (bt s (da s (i+1)))),.int .i64 (g9 (bt s (da s (i+1)+1)))],.bool true]) (da s (da s (i+1)))):=by
 have hl:=hr.lt
 have hne:w.heap.size≠b:=by omega
 have hs:=hB.1
 have hlt:=dR h0
 have hlt1:=kf h1
 obtain⟨j,hj⟩:∃ j,j=da s (i+1):=⟨_,rfl⟩
 have ex1:=fun W hW=>nG s b (i+1) W ⟨hs,by omega⟩ hW h1
 rw[←hj] at h2 hlt1 ex1 ⊢
 clear hj
 go_enter Tryz.func143,Tryz.ntmps143
 go_wp2_with fail
 go_at_call 146
 refine (fA s b i _ hB (hr.alloc _) h0).mono ?_
 rintro e w1 ⟨rfl,hr1,hg1⟩
 obtain⟨⟨hc1,hf1⟩,hn1,hzw1,hyw1,hxw1,hk1⟩:=nx hr1 hg1 (by omega)
 go_wp2_with fail
 go_at_call 150
 refine (ex1 _ (by with_reducible repeat' (first|assumption|refine Rd.alloc ?_ _|refine Rd.drewN ?_ _|refine Rd.step ?_|refine Rd.other ?_ ?_ _|(simp;omega)))).mono ?_
 rintro e w2 ⟨rfl,hr2,hg2⟩
 obtain⟨hc2,hf2⟩:=cN hg2
 have hn2:w2.heap.size≠b:=by have:=hr2.lt;omega
 have hzw2:w.heap.size<w2.heap.size:=by have:=hg2.size;(try simp at this);omega
 have hyw2:=Nat.le_of_lt hzw2
 have hxw2:=Nat.ne_of_lt hzw2
 have hk2:=af ((hg2.block w.heap.size (by (try simp);omega) (by simp;omega)).trans hk1.out)
 go_wp2_with fail
 go_at_call 150
 refine (nG s b j _ ⟨hs,by omega⟩ (by with_reducible repeat' (first|assumption|refine Rd.alloc ?_ _|refine Rd.drewN ?_ _|refine Rd.step ?_|refine Rd.other ?_ ?_ _|(simp;omega))) h2).mono ?_
 rintro e w3 ⟨rfl,hr3,hg3⟩
 obtain⟨hc3,hf3⟩:=cN hg3
 have hn3:w3.heap.size≠b:=by have:=hr3.lt;omega
 have hzw3:w.heap.size<w3.heap.size:=by have:=hg3.size;(try simp at this);omega
 have hyw3:=Nat.le_of_lt hzw3
 have hxw3:=Nat.ne_of_lt hzw3
 have hzw23:w2.heap.size<w3.heap.size:=by have:=hg3.size;(try simp at this);omega
 have hyw23:=Nat.le_of_lt hzw23
 have hxw23:=Nat.ne_of_lt hzw23
 have hk3:=af ((hg3.block w.heap.size (by (try simp);omega) (by simp;omega)).trans ((Below.heap_alloc _ _ _ hzw2).trans hk2.out))
 go_wp2
 refine bodyPost_ret (v:=.tuple #[.agg #[.int .i64 1,.int .i64 (bt s i - 97),.int .i64 (dw (bt s (i+1))),.int .i64 (dD (bt s (i+1))),.int .i64 (g9 (bt s (i+1+1))),.int .i64 (dw (bt s j)),.int .i64 (dD (bt s j)),.int .i64 (g9 (bt s (j+1)))],.bool true]) (aO Tryz.results143 rfl ((Below.heap_alloc _ _ _ (by simp;omega)).trans (bl 7 (bl 6 (bl 5 (bl 4 (bl 3 (bl 2 (bl 1 (bl 0 hk3.out))))))))) Tryz.underlying218 rfl (by kernel_rfl) rfl) rfl ⟨rfl,?_,?_⟩
 ·with_reducible repeat' (first|assumption|refine Rd.alloc ?_ _|refine Rd.drewN ?_ _|refine Rd.step ?_|refine Rd.other ?_ ?_ _|(simp;omega))
 ·with_reducible repeat' (first|assumption|exact ag _ _|refine aj ?_ ?_ _|refine ab ?_ _|refine al ?_ _|refine ae ?_ (by assumption)|(right;simp;done)|(right;simp;omega)|(left;rfl))
end Go.Proofs.YthlhbjnkohinmabGreat
