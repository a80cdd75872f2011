import Derived.Test.YthlhbjnkohinmaaGreatP00
namespace Go.Proofs.YthlhbjnkohinmaaGreat
set_option maxRecDepth 100000
set_option maxHeartbeats 8000000
open Go.RowKit
theorem no (s:ByteArray) (b i:Nat) (w:World) (hB:s.size≤400∧i≤400) (hr:Rd w b s i) (h:bc (bt s i)=true):Calls Tryz.prog 156 #[.pointer (some ⟨b,0,none⟩)] w (RP w b s (.tuple #[.agg #[.int .i64 (dw (bt s i)),.int .i64 (dC (bt s i)),.int .i64 (id (bt s (i+1)))],.bool true]) (c9 s i)):=by
 have hlt:=gj h
 have hs:=hB.1
 by_cases h1:bt s (i+1)=94
 ·have e1:id (bt s (i+1))=1:=by simp[id,h1]
  have e2:c9 s i=i+2:=by simp[c9,e9,h1]
  rw[e1,e2];exact EV s b i w hB hr h (by omega) h1
 ·by_cases h2:bt s (i+1)=126
  ·have e1:id (bt s (i+1))=-1:=by simp[id,h2]
   have e2:c9 s i=i+2:=by simp[c9,e9,h2]
   rw[e1,e2];exact Ar s b i w hB hr h (by omega) h2
  ·have e1:id (bt s (i+1))=0:=by simp[id,h1,h2]
   have e3:e9 (bt s (i+1))=false:=by simp[e9,h1,h2]
   have e2:c9 s i=i+1:=by simp[c9,e3]
   rw[e1,e2];exact xn s b i w hB hr h (by omega) e3
theorem vk (s:ByteArray) (b i:Nat) (w:World) (hB:s.size≤400∧i≤400) (hr:Rd w b s i) (kind:Int) (h0:aQ (bt s i)=false):Calls Tryz.prog 147 #[.pointer (some ⟨b,0,none⟩),.int .i64 kind] w (RP w b s (.tuple #[.agg #[.int .i64 0,.int .i64 0,.int .u8 0,.int .i64 0,.int .i64 0,.int .i64 0,.int .i64 0],.bool false]) (i)):=by
 have hl:=hr.lt
 have hne:w.heap.size≠b:=by omega
 have hs:=hB.1
 go_enter Tryz.func147,Tryz.ntmps147
 go_wp2_with fail
 go_at_call 152
 refine (nP s b i _ hB (hr.alloc _) h0).mono ?_
 rintro e w1 ⟨rfl,hr1,hg1⟩
 obtain⟨hc1,hf1⟩:=aU hg1
 have hn1:w1.heap.size≠b:=by have:=hr1.lt;omega
 have hzw1:w.heap.size<w1.heap.size:=by have:=hg1.size;(try simp at this);omega
 have hyw1:w.heap.size≤w1.heap.size:=Nat.le_of_lt hzw1
 have hxw1:w.heap.size≠w1.heap.size:=Nat.ne_of_lt hzw1
 have hk1:=af ((hg1.block w.heap.size (by simp) (by simp;omega)).trans (heap_alloc_new w _))
 go_wp2
 refine bodyPost_ret (v:=.tuple #[.agg #[.int .i64 0,.int .i64 0,.int .u8 0,.int .i64 0,.int .i64 0,.int .i64 0,.int .i64 0],.bool false]) (aN Tryz.results147 rfl (Go.heap_setCell_same _ _ 6 _ _ _ (Go.heap_setCell_same _ _ 5 _ _ _ (Go.heap_setCell_same _ _ 4 _ _ _ (Go.heap_setCell_same _ _ 3 _ _ _ (Go.heap_setCell_same _ _ 2 _ _ _ (Go.heap_setCell_same _ _ 1 _ _ _ (Go.heap_setCell_same _ _ 0 _ _ _ hk1.out))))))) Tryz.underlying206 rfl (by kernel_rfl) rfl) rfl ⟨rfl,?_,?_⟩
 ·repeat' (first|(with_reducible assumption)|(with_reducible refine Rd.alloc ?_ _)|(with_reducible refine Rd.drewN ?_ _)|(with_reducible refine Rd.step ?_)|(with_reducible refine Rd.other ?_ ?_ _)|(simp;omega))
 ·repeat' (first|(with_reducible assumption)|(with_reducible exact ag _ _)|(with_reducible refine aj ?_ ?_ _)|(with_reducible refine ab ?_ _)|(with_reducible refine al ?_ _)|(with_reducible refine ae ?_ (by assumption))|(right;simp;done)|(right;simp;omega)|(left;rfl))
theorem vB (s:ByteArray) (b i:Nat) (w:World) (hB:s.size≤400∧i≤400) (hr:Rd w b s i) (kind:Int) (h0:aQ (bt s i)=true) (h1:c8 (bt s (i+1))=false):Calls Tryz.prog 147 #[.pointer (some ⟨b,0,none⟩),.int .i64 kind] w (RP w b s (.tuple #[.agg #[.int .i64 0,.int .i64 0,.int .u8 0,.int .i64 0,.int .i64 0,.int .i64 0,.int .i64 0],.bool false]) (i+1)):=by
 have hl:=hr.lt
 have hne:w.heap.size≠b:=by omega
 have hs:=hB.1
 have hlt:=dP h0
 go_enter Tryz.func147,Tryz.ntmps147
 go_wp2_with fail
 go_at_call 152
 refine (fq s b i _ hB (hr.alloc _) h0).mono ?_
 rintro e w1 ⟨rfl,hr1,hg1⟩
 obtain⟨hc1,hf1⟩:=aU hg1
 have hn1:w1.heap.size≠b:=by have:=hr1.lt;omega
 have hzw1:w.heap.size<w1.heap.size:=by have:=hg1.size;(try simp at this);omega
 have hyw1:w.heap.size≤w1.heap.size:=Nat.le_of_lt hzw1
 have hxw1:w.heap.size≠w1.heap.size:=Nat.ne_of_lt hzw1
 have hk1:=af ((hg1.block w.heap.size (by simp) (by simp;omega)).trans (heap_alloc_new w _))
 go_wp2_with fail
 go_at_call 153
 refine (za s b (i+1) _ ⟨hs,by omega⟩ (by repeat' (first|(with_reducible assumption)|(with_reducible refine Rd.alloc ?_ _)|(with_reducible refine Rd.drewN ?_ _)|(with_reducible refine Rd.step ?_)|(with_reducible refine Rd.other ?_ ?_ _)|(simp;omega))) h1).mono ?_
 rintro e w2 ⟨rfl,hr2,hg2⟩
 obtain⟨hc2,hf2⟩:=aU hg2
 have hn2:w2.heap.size≠b:=by have:=hr2.lt;omega
 have hzw2:w.heap.size<w2.heap.size:=by have:=hg2.size;(try simp at this);omega
 have hyw2:w.heap.size≤w2.heap.size:=Nat.le_of_lt hzw2
 have hxw2:w.heap.size≠w2.heap.size:=Nat.ne_of_lt hzw2
 have hk2:=af ((hg2.block w.heap.size (by (try simp);omega) (by simp;omega)).trans hk1.out)
 go_wp2
 refine bodyPost_ret (v:=.tuple #[.agg #[.int .i64 0,.int .i64 0,.int .u8 0,.int .i64 0,.int .i64 0,.int .i64 0,.int .i64 0],.bool false]) (aN Tryz.results147 rfl ((Below.heap_alloc _ _ _ (by simp;omega)).trans (Go.heap_setCell_same _ _ 6 _ _ _ (Go.heap_setCell_same _ _ 5 _ _ _ (Go.heap_setCell_same _ _ 4 _ _ _ (Go.heap_setCell_same _ _ 3 _ _ _ (Go.heap_setCell_same _ _ 2 _ _ _ (Go.heap_setCell_same _ _ 1 _ _ _ (Go.heap_setCell_same _ _ 0 _ _ _ hk2.out)))))))) Tryz.underlying206 rfl (by kernel_rfl) rfl) rfl ⟨rfl,?_,?_⟩
 ·repeat' (first|(with_reducible assumption)|(with_reducible refine Rd.alloc ?_ _)|(with_reducible refine Rd.drewN ?_ _)|(with_reducible refine Rd.step ?_)|(with_reducible refine Rd.other ?_ ?_ _)|(simp;omega))
 ·repeat' (first|(with_reducible assumption)|(with_reducible exact ag _ _)|(with_reducible refine aj ?_ ?_ _)|(with_reducible refine ab ?_ _)|(with_reducible refine al ?_ _)|(with_reducible refine ae ?_ (by assumption))|(right;simp;done)|(right;simp;omega)|(left;rfl))
theorem vG (s:ByteArray) (b i:Nat) (w:World) (hB:s.size≤400∧i≤400) (hr:Rd w b s i) (kind:Int) (h0:aQ (bt s i)=true) (h1:c8 (bt s (i+1))=true) (h2:c8 (bt s (i+2))=false):Calls Tryz.prog 147 #[.pointer (some ⟨b,0,none⟩),.int .i64 kind] w (RP w b s (.tuple #[.agg #[.int .i64 kind,.int .i64 (bt s i - 97),.int .u8 0,.int .i64 (dw (bt s (i+1))),.int .i64 (dC (bt s (i+1))),.int .i64 0,.int .i64 0],.bool false]) (i+2)):=by
 have hl:=hr.lt
 have hne:w.heap.size≠b:=by omega
 have hs:=hB.1
 have hlt:=dP h0
 have hlt1:=lD h1
 go_enter Tryz.func147,Tryz.ntmps147
 go_wp2_with fail
 go_at_call 152
 refine (fq s b i _ hB (hr.alloc _) h0).mono ?_
 rintro e w1 ⟨rfl,hr1,hg1⟩
 obtain⟨hc1,hf1⟩:=aU hg1
 have hn1:w1.heap.size≠b:=by have:=hr1.lt;omega
 have hzw1:w.heap.size<w1.heap.size:=by have:=hg1.size;(try simp at this);omega
 have hyw1:w.heap.size≤w1.heap.size:=Nat.le_of_lt hzw1
 have hxw1:w.heap.size≠w1.heap.size:=Nat.ne_of_lt hzw1
 have hk1:=af ((hg1.block w.heap.size (by simp) (by simp;omega)).trans (heap_alloc_new w _))
 go_wp2_with fail
 go_at_call 153
 refine (po s b (i+1) _ ⟨hs,by omega⟩ (by repeat' (first|(with_reducible assumption)|(with_reducible refine Rd.alloc ?_ _)|(with_reducible refine Rd.drewN ?_ _)|(with_reducible refine Rd.step ?_)|(with_reducible refine Rd.other ?_ ?_ _)|(simp;omega))) h1).mono ?_
 rintro e w2 ⟨rfl,hr2,hg2⟩
 obtain⟨hc2,hf2⟩:=aU hg2
 have hn2:w2.heap.size≠b:=by have:=hr2.lt;omega
 have hzw2:w.heap.size<w2.heap.size:=by have:=hg2.size;(try simp at this);omega
 have hyw2:w.heap.size≤w2.heap.size:=Nat.le_of_lt hzw2
 have hxw2:w.heap.size≠w2.heap.size:=Nat.ne_of_lt hzw2
 have hk2:=af ((hg2.block w.heap.size (by (try simp);omega) (by simp;omega)).trans hk1.out)
 go_wp2_with fail
 go_at_call 153
 refine (za s b (i+2) _ ⟨hs,by omega⟩ (by repeat' (first|(with_reducible assumption)|(with_reducible refine Rd.alloc ?_ _)|(with_reducible refine Rd.drewN ?_ _)|(with_reducible refine Rd.step ?_)|(with_reducible refine Rd.other ?_ ?_ _)|(simp;omega))) h2).mono ?_
 rintro e w3 ⟨rfl,hr3,hg3⟩
 obtain⟨hc3,hf3⟩:=aU hg3
 have hn3:w3.heap.size≠b:=by have:=hr3.lt;omega
 have hzw3:w.heap.size<w3.heap.size:=by have:=hg3.size;(try simp at this);omega
 have hyw3:w.heap.size≤w3.heap.size:=Nat.le_of_lt hzw3
 have hxw3:w.heap.size≠w3.heap.size:=Nat.ne_of_lt hzw3
 have hzw23:w2.heap.size<w3.heap.size:=by have:=hg3.size;(try simp at this);omega
 have hyw23:w2.heap.size≤w3.heap.size:=Nat.le_of_lt hzw23
 have hxw23:w2.heap.size≠w3.heap.size:=Nat.ne_of_lt hzw23
 have hk3:=af ((hg3.block w.heap.size (by (try simp);omega) (by simp;omega)).trans ((Below.heap_alloc _ _ _ hzw2).trans hk2.out))
 go_wp2
 refine bodyPost_ret (v:=.tuple #[.agg #[.int .i64 kind,.int .i64 (bt s i - 97),.int .u8 0,.int .i64 (dw (bt s (i+1))),.int .i64 (dC (bt s (i+1))),.int .i64 0,.int .i64 0],.bool false]) (aN Tryz.results147 rfl ((Below.heap_alloc _ _ _ (by simp;omega)).trans (Go.heap_setCell_same _ _ 6 _ _ _ (Go.heap_setCell_same _ _ 5 _ _ _ (Go.heap_setCell_same _ _ 4 _ _ _ (Go.heap_setCell_same _ _ 3 _ _ _ (Go.heap_setCell_same _ _ 2 _ _ _ (Go.heap_setCell_same _ _ 1 _ _ _ (Go.heap_setCell_same _ _ 0 _ _ _ hk3.out)))))))) Tryz.underlying206 rfl (by kernel_rfl) rfl) rfl ⟨rfl,?_,?_⟩
 ·repeat' (first|(with_reducible assumption)|(with_reducible refine Rd.alloc ?_ _)|(with_reducible refine Rd.drewN ?_ _)|(with_reducible refine Rd.step ?_)|(with_reducible refine Rd.other ?_ ?_ _)|(simp;omega))
 ·repeat' (first|(with_reducible assumption)|(with_reducible exact ag _ _)|(with_reducible refine aj ?_ ?_ _)|(with_reducible refine ab ?_ _)|(with_reducible refine al ?_ _)|(with_reducible refine ae ?_ (by assumption))|(right;simp;done)|(right;simp;omega)|(left;rfl))
theorem up (s:ByteArray) (b i:Nat) (w:World) (hB:s.size≤400∧i≤400) (hr:Rd w b s i) (kind:Int) (h0:aQ (bt s i)=true) (h1:c8 (bt s (i+1))=true) (h2:c8 (bt s (i+2))=true):Calls Tryz.prog 147 #[.pointer (some ⟨b,0,none⟩),.int .i64 kind] w (RP w b s (.tuple #[.agg #[.int .i64 kind,.int .i64 (bt s i - 97),.int .u8 0,.int .i64 (dw (bt s (i+1))),.int .i64 (dC (bt s (i+1))),.int .i64 (dw (bt s (i+2))),.int .i64 (dC (bt s (i+2)))],.bool true]) (i+3)):=by
 have hl:=hr.lt
 have hne:w.heap.size≠b:=by omega
 have hs:=hB.1
 have hlt:=dP h0
 have hlt1:=lD h1
 go_enter Tryz.func147,Tryz.ntmps147
 go_wp2_with fail
 go_at_call 152
 refine (fq s b i _ hB (hr.alloc _) h0).mono ?_
 rintro e w1 ⟨rfl,hr1,hg1⟩
 obtain⟨hc1,hf1⟩:=aU hg1
 have hn1:w1.heap.size≠b:=by have:=hr1.lt;omega
 have hzw1:w.heap.size<w1.heap.size:=by have:=hg1.size;(try simp at this);omega
 have hyw1:w.heap.size≤w1.heap.size:=Nat.le_of_lt hzw1
 have hxw1:w.heap.size≠w1.heap.size:=Nat.ne_of_lt hzw1
 have hk1:=af ((hg1.block w.heap.size (by simp) (by simp;omega)).trans (heap_alloc_new w _))
 go_wp2_with fail
 go_at_call 153
 refine (po s b (i+1) _ ⟨hs,by omega⟩ (by repeat' (first|(with_reducible assumption)|(with_reducible refine Rd.alloc ?_ _)|(with_reducible refine Rd.drewN ?_ _)|(with_reducible refine Rd.step ?_)|(with_reducible refine Rd.other ?_ ?_ _)|(simp;omega))) h1).mono ?_
 rintro e w2 ⟨rfl,hr2,hg2⟩
 obtain⟨hc2,hf2⟩:=aU hg2
 have hn2:w2.heap.size≠b:=by have:=hr2.lt;omega
 have hzw2:w.heap.size<w2.heap.size:=by have:=hg2.size;(try simp at this);omega
 have hyw2:w.heap.size≤w2.heap.size:=Nat.le_of_lt hzw2
 have hxw2:w.heap.size≠w2.heap.size:=Nat.ne_of_lt hzw2
 have hk2:=af ((hg2.block w.heap.size (by (try simp);omega) (by simp;omega)).trans hk1.out)
 go_wp2_with fail
 go_at_call 153
 refine (po s b (i+2) _ ⟨hs,by omega⟩ (by repeat' (first|(with_reducible assumption)|(with_reducible refine Rd.alloc ?_ _)|(with_reducible refine Rd.drewN ?_ _)|(with_reducible refine Rd.step ?_)|(with_reducible refine Rd.other ?_ ?_ _)|(simp;omega))) h2).mono ?_
 rintro e w3 ⟨rfl,hr3,hg3⟩
 obtain⟨hc3,hf3⟩:=aU hg3
 have hn3:w3.heap.size≠b:=by have:=hr3.lt;omega
 have hzw3:w.heap.size<w3.heap.size:=by have:=hg3.size;(try simp at this);omega
 have hyw3:w.heap.size≤w3.heap.size:=Nat.le_of_lt hzw3
 have hxw3:w.heap.size≠w3.heap.size:=Nat.ne_of_lt hzw3
 have hzw23:w2.heap.size<w3.heap.size:=by have:=hg3.size;(try simp at this);omega
 have hyw23:w2.heap.size≤w3.heap.size:=Nat.le_of_lt hzw23
 have hxw23:w2.heap.size≠w3.heap.size:=Nat.ne_of_lt hzw23
 have hk3:=af ((hg3.block w.heap.size (by (try simp);omega) (by simp;omega)).trans ((Below.heap_alloc _ _ _ hzw2).trans hk2.out))
 go_wp2
 refine bodyPost_ret (v:=.tuple #[.agg #[.int .i64 kind,.int .i64 (bt s i - 97),.int .u8 0,.int .i64 (dw (bt s (i+1))),.int .i64 (dC (bt s (i+1))),.int .i64 (dw (bt s (i+2))),.int .i64 (dC (bt s (i+2)))],.bool true]) (aN Tryz.results147 rfl ((Below.heap_alloc _ _ _ (by simp;omega)).trans (Go.heap_setCell_same _ _ 6 _ _ _ (Go.heap_setCell_same _ _ 5 _ _ _ (Go.heap_setCell_same _ _ 4 _ _ _ (Go.heap_setCell_same _ _ 3 _ _ _ (Go.heap_setCell_same _ _ 2 _ _ _ (Go.heap_setCell_same _ _ 1 _ _ _ (Go.heap_setCell_same _ _ 0 _ _ _ hk3.out)))))))) Tryz.underlying206 rfl (by kernel_rfl) rfl) rfl ⟨rfl,?_,?_⟩
 ·repeat' (first|(with_reducible assumption)|(with_reducible refine Rd.alloc ?_ _)|(with_reducible refine Rd.drewN ?_ _)|(with_reducible refine Rd.step ?_)|(with_reducible refine Rd.other ?_ ?_ _)|(simp;omega))
 ·repeat' (first|(with_reducible assumption)|(with_reducible exact ag _ _)|(with_reducible refine aj ?_ ?_ _)|(with_reducible refine ab ?_ _)|(with_reducible refine al ?_ _)|(with_reducible refine ae ?_ (by assumption))|(right;simp;done)|(right;simp;omega)|(left;rfl))
theorem Cg (s:ByteArray) (b i:Nat) (w:World) (hB:s.size≤400∧i≤400) (hr:Rd w b s i) (h0:bc (bt s i)=false):Calls Tryz.prog 148 #[.pointer (some ⟨b,0,none⟩)] w (RP w b s (.tuple #[.agg #[.int .i64 0,.int .i64 0,.int .u8 0,.int .i64 0,.int .i64 0,.int .i64 0,.int .i64 0],.bool false]) (i)):=by
 have hl:=hr.lt
 have hne:w.heap.size≠b:=by omega
 have hs:=hB.1
 go_enter Tryz.func148,Tryz.ntmps148
 go_wp2_with fail
 go_at_call 154
 refine (j6 s b i _ hB (hr.alloc _) h0).mono ?_
 rintro e w1 ⟨rfl,hr1,hg1⟩
 obtain⟨hc1,hf1⟩:=aU hg1
 have hn1:w1.heap.size≠b:=by have:=hr1.lt;omega
 have hzw1:w.heap.size<w1.heap.size:=by have:=hg1.size;(try simp at this);omega
 have hyw1:w.heap.size≤w1.heap.size:=Nat.le_of_lt hzw1
 have hxw1:w.heap.size≠w1.heap.size:=Nat.ne_of_lt hzw1
 have hk1:=af ((hg1.block w.heap.size (by simp) (by simp;omega)).trans (heap_alloc_new w _))
 go_wp2
 refine bodyPost_ret (v:=.tuple #[.agg #[.int .i64 0,.int .i64 0,.int .u8 0,.int .i64 0,.int .i64 0,.int .i64 0,.int .i64 0],.bool false]) (aN Tryz.results148 rfl ((Below.heap_alloc _ _ _ (by simp;omega)).trans (Go.heap_setCell_same _ _ 6 _ _ _ (Go.heap_setCell_same _ _ 5 _ _ _ (Go.heap_setCell_same _ _ 4 _ _ _ (Go.heap_setCell_same _ _ 3 _ _ _ (Go.heap_setCell_same _ _ 2 _ _ _ (Go.heap_setCell_same _ _ 1 _ _ _ (Go.heap_setCell_same _ _ 0 _ _ _ hk1.out)))))))) Tryz.underlying206 rfl (by kernel_rfl) rfl) rfl ⟨rfl,?_,?_⟩
 ·repeat' (first|(with_reducible assumption)|(with_reducible refine Rd.alloc ?_ _)|(with_reducible refine Rd.drewN ?_ _)|(with_reducible refine Rd.step ?_)|(with_reducible refine Rd.other ?_ ?_ _)|(simp;omega))
 ·repeat' (first|(with_reducible assumption)|(with_reducible exact ag _ _)|(with_reducible refine aj ?_ ?_ _)|(with_reducible refine ab ?_ _)|(with_reducible refine al ?_ _)|(with_reducible refine ae ?_ (by assumption))|(right;simp;done)|(right;simp;omega)|(left;rfl))
theorem CN (s:ByteArray) (b i:Nat) (w:World) (hB:s.size≤400∧i≤400) (hr:Rd w b s i) (h0:bc (bt s i)=true) (h1:gF (bt s (i+1))=false):Calls Tryz.prog 148 #[.pointer (some ⟨b,0,none⟩)] w (RP w b s (.tuple #[.agg #[.int .i64 0,.int .i64 0,.int .u8 0,.int .i64 0,.int .i64 0,.int .i64 0,.int .i64 0],.bool false]) (i+1)):=by
 have hl:=hr.lt
 have hne:w.heap.size≠b:=by omega
 have hs:=hB.1
 have hlt:=gj h0
 go_enter Tryz.func148,Tryz.ntmps148
 go_wp2_with fail
 go_at_call 154
 refine (eD s b i _ hB (hr.alloc _) h0).mono ?_
 rintro e w1 ⟨rfl,hr1,hg1⟩
 obtain⟨hc1,hf1⟩:=aU hg1
 have hn1:w1.heap.size≠b:=by have:=hr1.lt;omega
 have hzw1:w.heap.size<w1.heap.size:=by have:=hg1.size;(try simp at this);omega
 have hyw1:w.heap.size≤w1.heap.size:=Nat.le_of_lt hzw1
 have hxw1:w.heap.size≠w1.heap.size:=Nat.ne_of_lt hzw1
 have hk1:=af ((hg1.block w.heap.size (by simp) (by simp;omega)).trans (heap_alloc_new w _))
 go_wp2_with fail
 go_at_call 155
 refine (Em s b (i+1) _ ⟨hs,by omega⟩ (by repeat' (first|(with_reducible assumption)|(with_reducible refine Rd.alloc ?_ _)|(with_reducible refine Rd.drewN ?_ _)|(with_reducible refine Rd.step ?_)|(with_reducible refine Rd.other ?_ ?_ _)|(simp;omega))) h1).mono ?_
 rintro e w2 ⟨rfl,hr2,hg2⟩
 obtain⟨hc2,hf2⟩:=aU hg2
 have hn2:w2.heap.size≠b:=by have:=hr2.lt;omega
 have hzw2:w.heap.size<w2.heap.size:=by have:=hg2.size;(try simp at this);omega
 have hyw2:w.heap.size≤w2.heap.size:=Nat.le_of_lt hzw2
 have hxw2:w.heap.size≠w2.heap.size:=Nat.ne_of_lt hzw2
 have hzw12:w1.heap.size<w2.heap.size:=by have:=hg2.size;(try simp at this);omega
 have hyw12:w1.heap.size≤w2.heap.size:=Nat.le_of_lt hzw12
 have hxw12:w1.heap.size≠w2.heap.size:=Nat.ne_of_lt hzw12
 have hk2:=af ((hg2.block w.heap.size (by (try simp);omega) (by simp;omega)).trans ((Below.heap_alloc _ _ _ hzw1).trans hk1.out))
 go_wp2
 refine bodyPost_ret (v:=.tuple #[.agg #[.int .i64 0,.int .i64 0,.int .u8 0,.int .i64 0,.int .i64 0,.int .i64 0,.int .i64 0],.bool false]) (aN Tryz.results148 rfl (Go.heap_setCell_same _ _ 6 _ _ _ (Go.heap_setCell_same _ _ 5 _ _ _ (Go.heap_setCell_same _ _ 4 _ _ _ (Go.heap_setCell_same _ _ 3 _ _ _ (Go.heap_setCell_same _ _ 2 _ _ _ (Go.heap_setCell_same _ _ 1 _ _ _ (Go.heap_setCell_same _ _ 0 _ _ _ hk2.out))))))) Tryz.underlying206 rfl (by kernel_rfl) rfl) rfl ⟨rfl,?_,?_⟩
 ·repeat' (first|(with_reducible assumption)|(with_reducible refine Rd.alloc ?_ _)|(with_reducible refine Rd.drewN ?_ _)|(with_reducible refine Rd.step ?_)|(with_reducible refine Rd.other ?_ ?_ _)|(simp;omega))
 ·repeat' (first|(with_reducible assumption)|(with_reducible exact ag _ _)|(with_reducible refine aj ?_ ?_ _)|(with_reducible refine ab ?_ _)|(with_reducible refine al ?_ _)|(with_reducible refine ae ?_ (by assumption))|(right;simp;done)|(right;simp;omega)|(left;rfl))
theorem DE (s:ByteArray) (b i:Nat) (w:World) (hB:s.size≤400∧i≤400) (hr:Rd w b s i) (h0:bc (bt s i)=true) (h1:gF (bt s (i+1))=true) (h2:bc (bt s (i+2))=false):Calls Tryz.prog 148 #[.pointer (some ⟨b,0,none⟩)] w (RP w b s (.tuple #[.agg #[.int .i64 3,.int .i64 0,.int .u8 (bt s (i+1)),.int .i64 (dw (bt s i)),.int .i64 (dC (bt s i)),.int .i64 0,.int .i64 0],.bool false]) (i+2)):=by
 have hl:=hr.lt
 have hne:w.heap.size≠b:=by omega
 have hs:=hB.1
 have hlt:=gj h0
 have hlt1:=nM h1
 go_enter Tryz.func148,Tryz.ntmps148
 go_wp2_with fail
 go_at_call 154
 refine (eD s b i _ hB (hr.alloc _) h0).mono ?_
 rintro e w1 ⟨rfl,hr1,hg1⟩
 obtain⟨hc1,hf1⟩:=aU hg1
 have hn1:w1.heap.size≠b:=by have:=hr1.lt;omega
 have hzw1:w.heap.size<w1.heap.size:=by have:=hg1.size;(try simp at this);omega
 have hyw1:w.heap.size≤w1.heap.size:=Nat.le_of_lt hzw1
 have hxw1:w.heap.size≠w1.heap.size:=Nat.ne_of_lt hzw1
 have hk1:=af ((hg1.block w.heap.size (by simp) (by simp;omega)).trans (heap_alloc_new w _))
 go_wp2_with fail
 go_at_call 155
 refine (vr s b (i+1) _ ⟨hs,by omega⟩ (by repeat' (first|(with_reducible assumption)|(with_reducible refine Rd.alloc ?_ _)|(with_reducible refine Rd.drewN ?_ _)|(with_reducible refine Rd.step ?_)|(with_reducible refine Rd.other ?_ ?_ _)|(simp;omega))) h1).mono ?_
 rintro e w2 ⟨rfl,hr2,hg2⟩
 obtain⟨hc2,hf2⟩:=aU hg2
 have hn2:w2.heap.size≠b:=by have:=hr2.lt;omega
 have hzw2:w.heap.size<w2.heap.size:=by have:=hg2.size;(try simp at this);omega
 have hyw2:w.heap.size≤w2.heap.size:=Nat.le_of_lt hzw2
 have hxw2:w.heap.size≠w2.heap.size:=Nat.ne_of_lt hzw2
 have hzw12:w1.heap.size<w2.heap.size:=by have:=hg2.size;(try simp at this);omega
 have hyw12:w1.heap.size≤w2.heap.size:=Nat.le_of_lt hzw12
 have hxw12:w1.heap.size≠w2.heap.size:=Nat.ne_of_lt hzw12
 have hk2:=af ((hg2.block w.heap.size (by (try simp);omega) (by simp;omega)).trans ((Below.heap_alloc _ _ _ hzw1).trans hk1.out))
 go_wp2_with fail
 go_at_call 154
 refine (j6 s b (i+2) _ ⟨hs,by omega⟩ (by repeat' (first|(with_reducible assumption)|(with_reducible refine Rd.alloc ?_ _)|(with_reducible refine Rd.drewN ?_ _)|(with_reducible refine Rd.step ?_)|(with_reducible refine Rd.other ?_ ?_ _)|(simp;omega))) h2).mono ?_
 rintro e w3 ⟨rfl,hr3,hg3⟩
 obtain⟨hc3,hf3⟩:=aU hg3
 have hn3:w3.heap.size≠b:=by have:=hr3.lt;omega
 have hzw3:w.heap.size<w3.heap.size:=by have:=hg3.size;(try simp at this);omega
 have hyw3:w.heap.size≤w3.heap.size:=Nat.le_of_lt hzw3
 have hxw3:w.heap.size≠w3.heap.size:=Nat.ne_of_lt hzw3
 have hzw13:w1.heap.size<w3.heap.size:=by have:=hg3.size;(try simp at this);omega
 have hyw13:w1.heap.size≤w3.heap.size:=Nat.le_of_lt hzw13
 have hxw13:w1.heap.size≠w3.heap.size:=Nat.ne_of_lt hzw13
 have hk3:=af ((hg3.block w.heap.size (by (try simp);omega) (by simp;omega)).trans hk2.out)
 go_wp2
 refine bodyPost_ret (v:=.tuple #[.agg #[.int .i64 3,.int .i64 0,.int .u8 (bt s (i+1)),.int .i64 (dw (bt s i)),.int .i64 (dC (bt s i)),.int .i64 0,.int .i64 0],.bool false]) (aN Tryz.results148 rfl ((Below.heap_alloc _ _ _ (by simp;omega)).trans (Go.heap_setCell_same _ _ 6 _ _ _ (Go.heap_setCell_same _ _ 5 _ _ _ (Go.heap_setCell_same _ _ 4 _ _ _ (Go.heap_setCell_same _ _ 3 _ _ _ (Go.heap_setCell_same _ _ 2 _ _ _ (Go.heap_setCell_same _ _ 1 _ _ _ (Go.heap_setCell_same _ _ 0 _ _ _ hk3.out)))))))) Tryz.underlying206 rfl (by kernel_rfl) rfl) rfl ⟨rfl,?_,?_⟩
 ·repeat' (first|(with_reducible assumption)|(with_reducible refine Rd.alloc ?_ _)|(with_reducible refine Rd.drewN ?_ _)|(with_reducible refine Rd.step ?_)|(with_reducible refine Rd.other ?_ ?_ _)|(simp;omega))
 ·repeat' (first|(with_reducible assumption)|(with_reducible exact ag _ _)|(with_reducible refine aj ?_ ?_ _)|(with_reducible refine ab ?_ _)|(with_reducible refine al ?_ _)|(with_reducible refine ae ?_ (by assumption))|(right;simp;done)|(right;simp;omega)|(left;rfl))
theorem CS (s:ByteArray) (b i:Nat) (w:World) (hB:s.size≤400∧i≤400) (hr:Rd w b s i) (h0:bc (bt s i)=true) (h1:gF (bt s (i+1))=true) (h2:bc (bt s (i+2))=true):Calls Tryz.prog 148 #[.pointer (some ⟨b,0,none⟩)] w (RP w b s (.tuple #[.agg #[.int .i64 3,.int .i64 0,.int .u8 (bt s (i+1)),.int .i64 (dw (bt s i)),.int .i64 (dC (bt s i)),.int .i64 (dw (bt s (i+2))),.int .i64 (dC (bt s (i+2)))],.bool true]) (i+3)):=by
 have hl:=hr.lt
 have hne:w.heap.size≠b:=by omega
 have hs:=hB.1
 have hlt:=gj h0
 have hlt1:=nM h1
 go_enter Tryz.func148,Tryz.ntmps148
 go_wp2_with fail
 go_at_call 154
 refine (eD s b i _ hB (hr.alloc _) h0).mono ?_
 rintro e w1 ⟨rfl,hr1,hg1⟩
 obtain⟨hc1,hf1⟩:=aU hg1
 have hn1:w1.heap.size≠b:=by have:=hr1.lt;omega
 have hzw1:w.heap.size<w1.heap.size:=by have:=hg1.size;(try simp at this);omega
 have hyw1:w.heap.size≤w1.heap.size:=Nat.le_of_lt hzw1
 have hxw1:w.heap.size≠w1.heap.size:=Nat.ne_of_lt hzw1
 have hk1:=af ((hg1.block w.heap.size (by simp) (by simp;omega)).trans (heap_alloc_new w _))
 go_wp2_with fail
 go_at_call 155
 refine (vr s b (i+1) _ ⟨hs,by omega⟩ (by repeat' (first|(with_reducible assumption)|(with_reducible refine Rd.alloc ?_ _)|(with_reducible refine Rd.drewN ?_ _)|(with_reducible refine Rd.step ?_)|(with_reducible refine Rd.other ?_ ?_ _)|(simp;omega))) h1).mono ?_
 rintro e w2 ⟨rfl,hr2,hg2⟩
 obtain⟨hc2,hf2⟩:=aU hg2
 have hn2:w2.heap.size≠b:=by have:=hr2.lt;omega
 have hzw2:w.heap.size<w2.heap.size:=by have:=hg2.size;(try simp at this);omega
 have hyw2:w.heap.size≤w2.heap.size:=Nat.le_of_lt hzw2
 have hxw2:w.heap.size≠w2.heap.size:=Nat.ne_of_lt hzw2
 have hzw12:w1.heap.size<w2.heap.size:=by have:=hg2.size;(try simp at this);omega
 have hyw12:w1.heap.size≤w2.heap.size:=Nat.le_of_lt hzw12
 have hxw12:w1.heap.size≠w2.heap.size:=Nat.ne_of_lt hzw12
 have hk2:=af ((hg2.block w.heap.size (by (try simp);omega) (by simp;omega)).trans ((Below.heap_alloc _ _ _ hzw1).trans hk1.out))
 go_wp2_with fail
 go_at_call 154
 refine (eD s b (i+2) _ ⟨hs,by omega⟩ (by repeat' (first|(with_reducible assumption)|(with_reducible refine Rd.alloc ?_ _)|(with_reducible refine Rd.drewN ?_ _)|(with_reducible refine Rd.step ?_)|(with_reducible refine Rd.other ?_ ?_ _)|(simp;omega))) h2).mono ?_
 rintro e w3 ⟨rfl,hr3,hg3⟩
 obtain⟨hc3,hf3⟩:=aU hg3
 have hn3:w3.heap.size≠b:=by have:=hr3.lt;omega
 have hzw3:w.heap.size<w3.heap.size:=by have:=hg3.size;(try simp at this);omega
 have hyw3:w.heap.size≤w3.heap.size:=Nat.le_of_lt hzw3
 have hxw3:w.heap.size≠w3.heap.size:=Nat.ne_of_lt hzw3
 have hzw13:w1.heap.size<w3.heap.size:=by have:=hg3.size;(try simp at this);omega
 have hyw13:w1.heap.size≤w3.heap.size:=Nat.le_of_lt hzw13
 have hxw13:w1.heap.size≠w3.heap.size:=Nat.ne_of_lt hzw13
 have hk3:=af ((hg3.block w.heap.size (by (try simp);omega) (by simp;omega)).trans hk2.out)
 go_wp2
 refine bodyPost_ret (v:=.tuple #[.agg #[.int .i64 3,.int .i64 0,.int .u8 (bt s (i+1)),.int .i64 (dw (bt s i)),.int .i64 (dC (bt s i)),.int .i64 (dw (bt s (i+2))),.int .i64 (dC (bt s (i+2)))],.bool true]) (aN Tryz.results148 rfl ((Below.heap_alloc _ _ _ (by simp;omega)).trans (Go.heap_setCell_same _ _ 6 _ _ _ (Go.heap_setCell_same _ _ 5 _ _ _ (Go.heap_setCell_same _ _ 4 _ _ _ (Go.heap_setCell_same _ _ 3 _ _ _ (Go.heap_setCell_same _ _ 2 _ _ _ (Go.heap_setCell_same _ _ 1 _ _ _ (Go.heap_setCell_same _ _ 0 _ _ _ hk3.out)))))))) Tryz.underlying206 rfl (by kernel_rfl) rfl) rfl ⟨rfl,?_,?_⟩
 ·repeat' (first|(with_reducible assumption)|(with_reducible refine Rd.alloc ?_ _)|(with_reducible refine Rd.drewN ?_ _)|(with_reducible refine Rd.step ?_)|(with_reducible refine Rd.other ?_ ?_ _)|(simp;omega))
 ·repeat' (first|(with_reducible assumption)|(with_reducible exact ag _ _)|(with_reducible refine aj ?_ ?_ _)|(with_reducible refine ab ?_ _)|(with_reducible refine al ?_ _)|(with_reducible refine ae ?_ (by assumption))|(right;simp;done)|(right;simp;omega)|(left;rfl))
theorem Bb (s:ByteArray) (b i:Nat) (w:World) (hB:s.size≤400∧i≤400) (hr:Rd w b s i) (h0:aQ (bt s i)=false):Calls Tryz.prog 150 #[.pointer (some ⟨b,0,none⟩)] w (RP w b s (.tuple #[.agg #[.int .i64 0,.int .i64 0,.int .i64 0,.int .i64 0,.int .i64 0,.int .i64 0,.int .i64 0,.int .i64 0],.bool false]) (i)):=by
 have hl:=hr.lt
 have hne:w.heap.size≠b:=by omega
 have hs:=hB.1
 go_enter Tryz.func150,Tryz.ntmps150
 go_wp2_with fail
 go_at_call 152
 refine (nP s b i _ hB (hr.alloc _) h0).mono ?_
 rintro e w1 ⟨rfl,hr1,hg1⟩
 obtain⟨hc1,hf1⟩:=aU hg1
 have hn1:w1.heap.size≠b:=by have:=hr1.lt;omega
 have hzw1:w.heap.size<w1.heap.size:=by have:=hg1.size;(try simp at this);omega
 have hyw1:w.heap.size≤w1.heap.size:=Nat.le_of_lt hzw1
 have hxw1:w.heap.size≠w1.heap.size:=Nat.ne_of_lt hzw1
 have hk1:=af ((hg1.block w.heap.size (by simp) (by simp;omega)).trans (heap_alloc_new w _))
 go_wp2
 refine bodyPost_ret (v:=.tuple #[.agg #[.int .i64 0,.int .i64 0,.int .i64 0,.int .i64 0,.int .i64 0,.int .i64 0,.int .i64 0,.int .i64 0],.bool false]) (aN Tryz.results150 rfl (Go.heap_setCell_same _ _ 7 _ _ _ (Go.heap_setCell_same _ _ 6 _ _ _ (Go.heap_setCell_same _ _ 5 _ _ _ (Go.heap_setCell_same _ _ 4 _ _ _ (Go.heap_setCell_same _ _ 3 _ _ _ (Go.heap_setCell_same _ _ 2 _ _ _ (Go.heap_setCell_same _ _ 1 _ _ _ (Go.heap_setCell_same _ _ 0 _ _ _ hk1.out)))))))) Tryz.underlying219 rfl (by kernel_rfl) rfl) rfl ⟨rfl,?_,?_⟩
 ·repeat' (first|(with_reducible assumption)|(with_reducible refine Rd.alloc ?_ _)|(with_reducible refine Rd.drewN ?_ _)|(with_reducible refine Rd.step ?_)|(with_reducible refine Rd.other ?_ ?_ _)|(simp;omega))
 ·repeat' (first|(with_reducible assumption)|(with_reducible exact ag _ _)|(with_reducible refine aj ?_ ?_ _)|(with_reducible refine ab ?_ _)|(with_reducible refine al ?_ _)|(with_reducible refine ae ?_ (by assumption))|(right;simp;done)|(right;simp;omega)|(left;rfl))
theorem zL (s:ByteArray) (b i:Nat) (w:World) (hB:s.size≤400∧i≤400) (hr:Rd w b s i) (h0:aQ (bt s i)=true) (h1:bc (bt s (i+1))=false):Calls Tryz.prog 150 #[.pointer (some ⟨b,0,none⟩)] w (RP w b s (.tuple #[.agg #[.int .i64 2,.int .i64 (bt s i - 97),.int .i64 0,.int .i64 0,.int .i64 0,.int .i64 0,.int .i64 0,.int .i64 0],.bool false]) (i+1)):=by
 have hl:=hr.lt
 have hne:w.heap.size≠b:=by omega
 have hs:=hB.1
 have hlt:=dP h0
 go_enter Tryz.func150,Tryz.ntmps150
 go_wp2_with fail
 go_at_call 152
 refine (fq s b i _ hB (hr.alloc _) h0).mono ?_
 rintro e w1 ⟨rfl,hr1,hg1⟩
 obtain⟨hc1,hf1⟩:=aU hg1
 have hn1:w1.heap.size≠b:=by have:=hr1.lt;omega
 have hzw1:w.heap.size<w1.heap.size:=by have:=hg1.size;(try simp at this);omega
 have hyw1:w.heap.size≤w1.heap.size:=Nat.le_of_lt hzw1
 have hxw1:w.heap.size≠w1.heap.size:=Nat.ne_of_lt hzw1
 have hk1:=af ((hg1.block w.heap.size (by simp) (by simp;omega)).trans (heap_alloc_new w _))
 go_wp2_with fail
 go_at_call 156
 refine (sJ s b (i+1) _ ⟨hs,by omega⟩ (by repeat' (first|(with_reducible assumption)|(with_reducible refine Rd.alloc ?_ _)|(with_reducible refine Rd.drewN ?_ _)|(with_reducible refine Rd.step ?_)|(with_reducible refine Rd.other ?_ ?_ _)|(simp;omega))) h1).mono ?_
 rintro e w2 ⟨rfl,hr2,hg2⟩
 obtain⟨hc2,hf2⟩:=aU hg2
 have hn2:w2.heap.size≠b:=by have:=hr2.lt;omega
 have hzw2:w.heap.size<w2.heap.size:=by have:=hg2.size;(try simp at this);omega
 have hyw2:w.heap.size≤w2.heap.size:=Nat.le_of_lt hzw2
 have hxw2:w.heap.size≠w2.heap.size:=Nat.ne_of_lt hzw2
 have hk2:=af ((hg2.block w.heap.size (by (try simp);omega) (by simp;omega)).trans hk1.out)
 go_wp2
 refine bodyPost_ret (v:=.tuple #[.agg #[.int .i64 2,.int .i64 (bt s i - 97),.int .i64 0,.int .i64 0,.int .i64 0,.int .i64 0,.int .i64 0,.int .i64 0],.bool false]) (aN Tryz.results150 rfl ((Below.heap_alloc _ _ _ (by simp;omega)).trans (Go.heap_setCell_same _ _ 7 _ _ _ (Go.heap_setCell_same _ _ 6 _ _ _ (Go.heap_setCell_same _ _ 5 _ _ _ (Go.heap_setCell_same _ _ 4 _ _ _ (Go.heap_setCell_same _ _ 3 _ _ _ (Go.heap_setCell_same _ _ 2 _ _ _ (Go.heap_setCell_same _ _ 1 _ _ _ (Go.heap_setCell_same _ _ 0 _ _ _ hk2.out))))))))) Tryz.underlying219 rfl (by kernel_rfl) rfl) rfl ⟨rfl,?_,?_⟩
 ·repeat' (first|(with_reducible assumption)|(with_reducible refine Rd.alloc ?_ _)|(with_reducible refine Rd.drewN ?_ _)|(with_reducible refine Rd.step ?_)|(with_reducible refine Rd.other ?_ ?_ _)|(simp;omega))
 ·repeat' (first|(with_reducible assumption)|(with_reducible exact ag _ _)|(with_reducible refine aj ?_ ?_ _)|(with_reducible refine ab ?_ _)|(with_reducible refine al ?_ _)|(with_reducible refine ae ?_ (by assumption))|(right;simp;done)|(right;simp;omega)|(left;rfl))
theorem zm (s:ByteArray) (b i:Nat) (w:World) (hB:s.size≤400∧i≤400) (hr:Rd w b s i) (h0:aQ (bt s i)=true) (h1:bc (bt s (i+1))=true):Calls Tryz.prog 150 #[.pointer (some ⟨b,0,none⟩)] w (RP w b s (.tuple #[.agg #[.int .i64 2,.int .i64 (bt s i - 97),.int .i64 (dw (bt s (i+1))),.int .i64 (dC (bt s (i+1))),.int .i64 (id (bt s (i+1+1))),.int .i64 0,.int .i64 0,.int .i64 0],.bool true]) (c9 s (i+1))):=by
 have hl:=hr.lt
 have hne:w.heap.size≠b:=by omega
 have hs:=hB.1
 have hlt:=dP h0
 go_enter Tryz.func150,Tryz.ntmps150
 go_wp2_with fail
 go_at_call 152
 refine (fq s b i _ hB (hr.alloc _) h0).mono ?_
 rintro e w1 ⟨rfl,hr1,hg1⟩
 obtain⟨hc1,hf1⟩:=aU hg1
 have hn1:w1.heap.size≠b:=by have:=hr1.lt;omega
 have hzw1:w.heap.size<w1.heap.size:=by have:=hg1.size;(try simp at this);omega
 have hyw1:w.heap.size≤w1.heap.size:=Nat.le_of_lt hzw1
 have hxw1:w.heap.size≠w1.heap.size:=Nat.ne_of_lt hzw1
 have hk1:=af ((hg1.block w.heap.size (by simp) (by simp;omega)).trans (heap_alloc_new w _))
 go_wp2_with fail
 go_at_call 156
 refine (no s b (i+1) _ ⟨hs,by omega⟩ (by repeat' (first|(with_reducible assumption)|(with_reducible refine Rd.alloc ?_ _)|(with_reducible refine Rd.drewN ?_ _)|(with_reducible refine Rd.step ?_)|(with_reducible refine Rd.other ?_ ?_ _)|(simp;omega))) h1).mono ?_
 rintro e w2 ⟨rfl,hr2,hg2⟩
 obtain⟨hc2,hf2⟩:=aU hg2
 have hn2:w2.heap.size≠b:=by have:=hr2.lt;omega
 have hzw2:w.heap.size<w2.heap.size:=by have:=hg2.size;(try simp at this);omega
 have hyw2:w.heap.size≤w2.heap.size:=Nat.le_of_lt hzw2
 have hxw2:w.heap.size≠w2.heap.size:=Nat.ne_of_lt hzw2
 have hk2:=af ((hg2.block w.heap.size (by (try simp);omega) (by simp;omega)).trans hk1.out)
 go_wp2
 refine bodyPost_ret (v:=.tuple #[.agg #[.int .i64 2,.int .i64 (bt s i - 97),.int .i64 (dw (bt s (i+1))),.int .i64 (dC (bt s (i+1))),.int .i64 (id (bt s (i+1+1))),.int .i64 0,.int .i64 0,.int .i64 0],.bool true]) (aN Tryz.results150 rfl ((Below.heap_alloc _ _ _ (by simp;omega)).trans (Go.heap_setCell_same _ _ 7 _ _ _ (Go.heap_setCell_same _ _ 6 _ _ _ (Go.heap_setCell_same _ _ 5 _ _ _ (Go.heap_setCell_same _ _ 4 _ _ _ (Go.heap_setCell_same _ _ 3 _ _ _ (Go.heap_setCell_same _ _ 2 _ _ _ (Go.heap_setCell_same _ _ 1 _ _ _ (Go.heap_setCell_same _ _ 0 _ _ _ hk2.out))))))))) Tryz.underlying219 rfl (by kernel_rfl) rfl) rfl ⟨rfl,?_,?_⟩
 ·repeat' (first|(with_reducible assumption)|(with_reducible refine Rd.alloc ?_ _)|(with_reducible refine Rd.drewN ?_ _)|(with_reducible refine Rd.step ?_)|(with_reducible refine Rd.other ?_ ?_ _)|(simp;omega))
 ·repeat' (first|(with_reducible assumption)|(with_reducible exact ag _ _)|(with_reducible refine aj ?_ ?_ _)|(with_reducible refine ab ?_ _)|(with_reducible refine al ?_ _)|(with_reducible refine ae ?_ (by assumption))|(right;simp;done)|(right;simp;omega)|(left;rfl))
theorem Do (s:ByteArray) (b i:Nat) (w:World) (hB:s.size≤400∧i≤400) (hr:Rd w b s i) (h0:aQ (bt s i)=false):Calls Tryz.prog 149 #[.pointer (some ⟨b,0,none⟩)] w (RP w b s (.tuple #[.agg #[.int .i64 0,.int .i64 0,.int .i64 0,.int .i64 0,.int .i64 0,.int .i64 0,.int .i64 0,.int .i64 0],.bool false]) (i)):=by
 have hl:=hr.lt
 have hne:w.heap.size≠b:=by omega
 have hs:=hB.1
 go_enter Tryz.func149,Tryz.ntmps149
 go_wp2_with fail
 go_at_call 152
 refine (nP s b i _ hB (hr.alloc _) h0).mono ?_
 rintro e w1 ⟨rfl,hr1,hg1⟩
 obtain⟨hc1,hf1⟩:=aU hg1
 have hn1:w1.heap.size≠b:=by have:=hr1.lt;omega
 have hzw1:w.heap.size<w1.heap.size:=by have:=hg1.size;(try simp at this);omega
 have hyw1:w.heap.size≤w1.heap.size:=Nat.le_of_lt hzw1
 have hxw1:w.heap.size≠w1.heap.size:=Nat.ne_of_lt hzw1
 have hk1:=af ((hg1.block w.heap.size (by simp) (by simp;omega)).trans (heap_alloc_new w _))
 go_wp2
 refine bodyPost_ret (v:=.tuple #[.agg #[.int .i64 0,.int .i64 0,.int .i64 0,.int .i64 0,.int .i64 0,.int .i64 0,.int .i64 0,.int .i64 0],.bool false]) (aN Tryz.results149 rfl (Go.heap_setCell_same _ _ 7 _ _ _ (Go.heap_setCell_same _ _ 6 _ _ _ (Go.heap_setCell_same _ _ 5 _ _ _ (Go.heap_setCell_same _ _ 4 _ _ _ (Go.heap_setCell_same _ _ 3 _ _ _ (Go.heap_setCell_same _ _ 2 _ _ _ (Go.heap_setCell_same _ _ 1 _ _ _ (Go.heap_setCell_same _ _ 0 _ _ _ hk1.out)))))))) Tryz.underlying219 rfl (by kernel_rfl) rfl) rfl ⟨rfl,?_,?_⟩
 ·repeat' (first|(with_reducible assumption)|(with_reducible refine Rd.alloc ?_ _)|(with_reducible refine Rd.drewN ?_ _)|(with_reducible refine Rd.step ?_)|(with_reducible refine Rd.other ?_ ?_ _)|(simp;omega))
 ·repeat' (first|(with_reducible assumption)|(with_reducible exact ag _ _)|(with_reducible refine aj ?_ ?_ _)|(with_reducible refine ab ?_ _)|(with_reducible refine al ?_ _)|(with_reducible refine ae ?_ (by assumption))|(right;simp;done)|(right;simp;omega)|(left;rfl))
theorem Ce (s:ByteArray) (b i:Nat) (w:World) (hB:s.size≤400∧i≤400) (hr:Rd w b s i) (h0:aQ (bt s i)=true) (h1:bc (bt s (i+1))=false):Calls Tryz.prog 149 #[.pointer (some ⟨b,0,none⟩)] w (RP w b s (.tuple #[.agg #[.int .i64 0,.int .i64 0,.int .i64 0,.int .i64 0,.int .i64 0,.int .i64 0,.int .i64 0,.int .i64 0],.bool false]) (i+1)):=by
 have hl:=hr.lt
 have hne:w.heap.size≠b:=by omega
 have hs:=hB.1
 have hlt:=dP h0
 go_enter Tryz.func149,Tryz.ntmps149
 go_wp2_with fail
 go_at_call 152
 refine (fq s b i _ hB (hr.alloc _) h0).mono ?_
 rintro e w1 ⟨rfl,hr1,hg1⟩
 obtain⟨hc1,hf1⟩:=aU hg1
 have hn1:w1.heap.size≠b:=by have:=hr1.lt;omega
 have hzw1:w.heap.size<w1.heap.size:=by have:=hg1.size;(try simp at this);omega
 have hyw1:w.heap.size≤w1.heap.size:=Nat.le_of_lt hzw1
 have hxw1:w.heap.size≠w1.heap.size:=Nat.ne_of_lt hzw1
 have hk1:=af ((hg1.block w.heap.size (by simp) (by simp;omega)).trans (heap_alloc_new w _))
 go_wp2_with fail
 go_at_call 156
 refine (sJ s b (i+1) _ ⟨hs,by omega⟩ (by repeat' (first|(with_reducible assumption)|(with_reducible refine Rd.alloc ?_ _)|(with_reducible refine Rd.drewN ?_ _)|(with_reducible refine Rd.step ?_)|(with_reducible refine Rd.other ?_ ?_ _)|(simp;omega))) h1).mono ?_
 rintro e w2 ⟨rfl,hr2,hg2⟩
 obtain⟨hc2,hf2⟩:=aU hg2
 have hn2:w2.heap.size≠b:=by have:=hr2.lt;omega
 have hzw2:w.heap.size<w2.heap.size:=by have:=hg2.size;(try simp at this);omega
 have hyw2:w.heap.size≤w2.heap.size:=Nat.le_of_lt hzw2
 have hxw2:w.heap.size≠w2.heap.size:=Nat.ne_of_lt hzw2
 have hk2:=af ((hg2.block w.heap.size (by (try simp);omega) (by simp;omega)).trans hk1.out)
 go_wp2
 refine bodyPost_ret (v:=.tuple #[.agg #[.int .i64 0,.int .i64 0,.int .i64 0,.int .i64 0,.int .i64 0,.int .i64 0,.int .i64 0,.int .i64 0],.bool false]) (aN Tryz.results149 rfl ((Below.heap_alloc _ _ _ (by simp;omega)).trans (Go.heap_setCell_same _ _ 7 _ _ _ (Go.heap_setCell_same _ _ 6 _ _ _ (Go.heap_setCell_same _ _ 5 _ _ _ (Go.heap_setCell_same _ _ 4 _ _ _ (Go.heap_setCell_same _ _ 3 _ _ _ (Go.heap_setCell_same _ _ 2 _ _ _ (Go.heap_setCell_same _ _ 1 _ _ _ (Go.heap_setCell_same _ _ 0 _ _ _ hk2.out))))))))) Tryz.underlying219 rfl (by kernel_rfl) rfl) rfl ⟨rfl,?_,?_⟩
 ·repeat' (first|(with_reducible assumption)|(with_reducible refine Rd.alloc ?_ _)|(with_reducible refine Rd.drewN ?_ _)|(with_reducible refine Rd.step ?_)|(with_reducible refine Rd.other ?_ ?_ _)|(simp;omega))
 ·repeat' (first|(with_reducible assumption)|(with_reducible exact ag _ _)|(with_reducible refine aj ?_ ?_ _)|(with_reducible refine ab ?_ _)|(with_reducible refine al ?_ _)|(with_reducible refine ae ?_ (by assumption))|(right;simp;done)|(right;simp;omega)|(left;rfl))
theorem Dz (s:ByteArray) (b i:Nat) (w:World) (hB:s.size≤400∧i≤400) (hr:Rd w b s i) (h0:aQ (bt s i)=true) (h1:bc (bt s (i+1))=true) (h2:bc (bt s (c9 s (i+1)))=false):Calls Tryz.prog 149 #[.pointer (some ⟨b,0,none⟩)] w (RP w b s (.tuple #[.agg #[.int .i64 1,.int .i64 (bt s i - 97),.int .i64 (dw (bt s (i+1))),.int .i64 (dC (bt s (i+1))),.int .i64 (id (bt s (i+1+1))),.int .i64 0,.int .i64 0,.int .i64 0],.bool false]) (c9 s (i+1))):=by
 have hl:=hr.lt
 have hne:w.heap.size≠b:=by omega
 have hs:=hB.1
 have hlt:=dP h0
 have hlt1:=j7 h1
 obtain⟨j,hj⟩:∃ j,j=c9 s (i+1):=⟨_,rfl⟩
 have ex1:=fun W hW=>no s b (i+1) W ⟨hs,by omega⟩ hW h1
 rw[←hj] at h2 hlt1 ex1 ⊢
 clear hj
 go_enter Tryz.func149,Tryz.ntmps149
 go_wp2_with fail
 go_at_call 152
 refine (fq s b i _ hB (hr.alloc _) h0).mono ?_
 rintro e w1 ⟨rfl,hr1,hg1⟩
 obtain⟨hc1,hf1⟩:=aU hg1
 have hn1:w1.heap.size≠b:=by have:=hr1.lt;omega
 have hzw1:w.heap.size<w1.heap.size:=by have:=hg1.size;(try simp at this);omega
 have hyw1:w.heap.size≤w1.heap.size:=Nat.le_of_lt hzw1
 have hxw1:w.heap.size≠w1.heap.size:=Nat.ne_of_lt hzw1
 have hk1:=af ((hg1.block w.heap.size (by simp) (by simp;omega)).trans (heap_alloc_new w _))
 go_wp2_with fail
 go_at_call 156
 refine (ex1 _ (by repeat' (first|(with_reducible assumption)|(with_reducible refine Rd.alloc ?_ _)|(with_reducible refine Rd.drewN ?_ _)|(with_reducible refine Rd.step ?_)|(with_reducible refine Rd.other ?_ ?_ _)|(simp;omega)))).mono ?_
 rintro e w2 ⟨rfl,hr2,hg2⟩
 obtain⟨hc2,hf2⟩:=aU hg2
 have hn2:w2.heap.size≠b:=by have:=hr2.lt;omega
 have hzw2:w.heap.size<w2.heap.size:=by have:=hg2.size;(try simp at this);omega
 have hyw2:w.heap.size≤w2.heap.size:=Nat.le_of_lt hzw2
 have hxw2:w.heap.size≠w2.heap.size:=Nat.ne_of_lt hzw2
 have hk2:=af ((hg2.block w.heap.size (by (try simp);omega) (by simp;omega)).trans hk1.out)
 go_wp2_with fail
 go_at_call 156
 refine (sJ s b j _ ⟨hs,by omega⟩ (by repeat' (first|(with_reducible assumption)|(with_reducible refine Rd.alloc ?_ _)|(with_reducible refine Rd.drewN ?_ _)|(with_reducible refine Rd.step ?_)|(with_reducible refine Rd.other ?_ ?_ _)|(simp;omega))) h2).mono ?_
 rintro e w3 ⟨rfl,hr3,hg3⟩
 obtain⟨hc3,hf3⟩:=aU hg3
 have hn3:w3.heap.size≠b:=by have:=hr3.lt;omega
 have hzw3:w.heap.size<w3.heap.size:=by have:=hg3.size;(try simp at this);omega
 have hyw3:w.heap.size≤w3.heap.size:=Nat.le_of_lt hzw3
 have hxw3:w.heap.size≠w3.heap.size:=Nat.ne_of_lt hzw3
 have hzw23:w2.heap.size<w3.heap.size:=by have:=hg3.size;(try simp at this);omega
 have hyw23:w2.heap.size≤w3.heap.size:=Nat.le_of_lt hzw23
 have hxw23:w2.heap.size≠w3.heap.size:=Nat.ne_of_lt hzw23
 have hk3:=af ((hg3.block w.heap.size (by (try simp);omega) (by simp;omega)).trans ((Below.heap_alloc _ _ _ hzw2).trans hk2.out))
 go_wp2
 refine bodyPost_ret (v:=.tuple #[.agg #[.int .i64 1,.int .i64 (bt s i - 97),.int .i64 (dw (bt s (i+1))),.int .i64 (dC (bt s (i+1))),.int .i64 (id (bt s (i+1+1))),.int .i64 0,.int .i64 0,.int .i64 0],.bool false]) (aN Tryz.results149 rfl ((Below.heap_alloc _ _ _ (by simp;omega)).trans (Go.heap_setCell_same _ _ 7 _ _ _ (Go.heap_setCell_same _ _ 6 _ _ _ (Go.heap_setCell_same _ _ 5 _ _ _ (Go.heap_setCell_same _ _ 4 _ _ _ (Go.heap_setCell_same _ _ 3 _ _ _ (Go.heap_setCell_same _ _ 2 _ _ _ (Go.heap_setCell_same _ _ 1 _ _ _ (Go.heap_setCell_same _ _ 0 _ _ _ hk3.out))))))))) Tryz.underlying219 rfl (by kernel_rfl) rfl) rfl ⟨rfl,?_,?_⟩
 ·repeat' (first|(with_reducible assumption)|(with_reducible refine Rd.alloc ?_ _)|(with_reducible refine Rd.drewN ?_ _)|(with_reducible refine Rd.step ?_)|(with_reducible refine Rd.other ?_ ?_ _)|(simp;omega))
 ·repeat' (first|(with_reducible assumption)|(with_reducible exact ag _ _)|(with_reducible refine aj ?_ ?_ _)|(with_reducible refine ab ?_ _)|(with_reducible refine al ?_ _)|(with_reducible refine ae ?_ (by assumption))|(right;simp;done)|(right;simp;omega)|(left;rfl))
theorem Dg (s:ByteArray) (b i:Nat) (w:World) (hB:s.size≤400∧i≤400) (hr:Rd w b s i) (h0:aQ (bt s i)=true) (h1:bc (bt s (i+1))=true) (h2:bc (bt s (c9 s (i+1)))=true):Calls Tryz.prog 149 #[.pointer (some ⟨b,0,none⟩)] w (RP w b s (.tuple #[.agg #[.int .i64 1,.int .i64 (bt s i - 97),.int .i64 (dw (bt s (i+1))),.int .i64 (dC (bt s (i+1))),.int .i64 (id (bt s (i+1+1))),.int .i64 (dw (bt s (c9 s (i+1)))),.int .i64 (dC (bt s (c9 s (i+1)))),.int .i64 (id (bt s (c9 s (i+1)+1)))],.bool true]) (c9 s (c9 s (i+1)))):=by
 have hl:=hr.lt
 have hne:w.heap.size≠b:=by omega
 have hs:=hB.1
 have hlt:=dP h0
 have hlt1:=j7 h1
 obtain⟨j,hj⟩:∃ j,j=c9 s (i+1):=⟨_,rfl⟩
 have ex1:=fun W hW=>no s b (i+1) W ⟨hs,by omega⟩ hW h1
 rw[←hj] at h2 hlt1 ex1 ⊢
 clear hj
 go_enter Tryz.func149,Tryz.ntmps149
 go_wp2_with fail
 go_at_call 152
 refine (fq s b i _ hB (hr.alloc _) h0).mono ?_
 rintro e w1 ⟨rfl,hr1,hg1⟩
 obtain⟨hc1,hf1⟩:=aU hg1
 have hn1:w1.heap.size≠b:=by have:=hr1.lt;omega
 have hzw1:w.heap.size<w1.heap.size:=by have:=hg1.size;(try simp at this);omega
 have hyw1:w.heap.size≤w1.heap.size:=Nat.le_of_lt hzw1
 have hxw1:w.heap.size≠w1.heap.size:=Nat.ne_of_lt hzw1
 have hk1:=af ((hg1.block w.heap.size (by simp) (by simp;omega)).trans (heap_alloc_new w _))
 go_wp2_with fail
 go_at_call 156
 refine (ex1 _ (by repeat' (first|(with_reducible assumption)|(with_reducible refine Rd.alloc ?_ _)|(with_reducible refine Rd.drewN ?_ _)|(with_reducible refine Rd.step ?_)|(with_reducible refine Rd.other ?_ ?_ _)|(simp;omega)))).mono ?_
 rintro e w2 ⟨rfl,hr2,hg2⟩
 obtain⟨hc2,hf2⟩:=aU hg2
 have hn2:w2.heap.size≠b:=by have:=hr2.lt;omega
 have hzw2:w.heap.size<w2.heap.size:=by have:=hg2.size;(try simp at this);omega
 have hyw2:w.heap.size≤w2.heap.size:=Nat.le_of_lt hzw2
 have hxw2:w.heap.size≠w2.heap.size:=Nat.ne_of_lt hzw2
 have hk2:=af ((hg2.block w.heap.size (by (try simp);omega) (by simp;omega)).trans hk1.out)
 go_wp2_with fail
 go_at_call 156
 refine (no s b j _ ⟨hs,by omega⟩ (by repeat' (first|(with_reducible assumption)|(with_reducible refine Rd.alloc ?_ _)|(with_reducible refine Rd.drewN ?_ _)|(with_reducible refine Rd.step ?_)|(with_reducible refine Rd.other ?_ ?_ _)|(simp;omega))) h2).mono ?_
 rintro e w3 ⟨rfl,hr3,hg3⟩
 obtain⟨hc3,hf3⟩:=aU hg3
 have hn3:w3.heap.size≠b:=by have:=hr3.lt;omega
 have hzw3:w.heap.size<w3.heap.size:=by have:=hg3.size;(try simp at this);omega
 have hyw3:w.heap.size≤w3.heap.size:=Nat.le_of_lt hzw3
 have hxw3:w.heap.size≠w3.heap.size:=Nat.ne_of_lt hzw3
 have hzw23:w2.heap.size<w3.heap.size:=by have:=hg3.size;(try simp at this);omega
 have hyw23:w2.heap.size≤w3.heap.size:=Nat.le_of_lt hzw23
 have hxw23:w2.heap.size≠w3.heap.size:=Nat.ne_of_lt hzw23
 have hk3:=af ((hg3.block w.heap.size (by (try simp);omega) (by simp;omega)).trans ((Below.heap_alloc _ _ _ hzw2).trans hk2.out))
 go_wp2
 refine bodyPost_ret (v:=.tuple #[.agg #[.int .i64 1,.int .i64 (bt s i - 97),.int .i64 (dw (bt s (i+1))),.int .i64 (dC (bt s (i+1))),.int .i64 (id (bt s (i+1+1))),.int .i64 (dw (bt s j)),.int .i64 (dC (bt s j)),.int .i64 (id (bt s (j+1)))],.bool true]) (aN Tryz.results149 rfl ((Below.heap_alloc _ _ _ (by simp;omega)).trans (Go.heap_setCell_same _ _ 7 _ _ _ (Go.heap_setCell_same _ _ 6 _ _ _ (Go.heap_setCell_same _ _ 5 _ _ _ (Go.heap_setCell_same _ _ 4 _ _ _ (Go.heap_setCell_same _ _ 3 _ _ _ (Go.heap_setCell_same _ _ 2 _ _ _ (Go.heap_setCell_same _ _ 1 _ _ _ (Go.heap_setCell_same _ _ 0 _ _ _ hk3.out))))))))) Tryz.underlying219 rfl (by kernel_rfl) rfl) rfl ⟨rfl,?_,?_⟩
 ·repeat' (first|(with_reducible assumption)|(with_reducible refine Rd.alloc ?_ _)|(with_reducible refine Rd.drewN ?_ _)|(with_reducible refine Rd.step ?_)|(with_reducible refine Rd.other ?_ ?_ _)|(simp;omega))
 ·repeat' (first|(with_reducible assumption)|(with_reducible exact ag _ _)|(with_reducible refine aj ?_ ?_ _)|(with_reducible refine ab ?_ _)|(with_reducible refine al ?_ _)|(with_reducible refine ae ?_ (by assumption))|(right;simp;done)|(right;simp;omega)|(left;rfl))
end Go.Proofs.YthlhbjnkohinmaaGreat
