import Derived.Test.YthlhbjnkohinmabGreatP50
import Derived.Test.YthlhbjnkohinmabGreatP47
namespace Go.Proofs.YthlhbjnkohinmabGreat
set_option maxRecDepth 100000
set_option maxHeartbeats 8000000
open Go.RowKit
abbrev Pg:=ap×dN×bm
structure BB (g x y:Nat)(X:ap)(F:dN)(E:bm)(w:World)(f1 f2:List Nat):Prop where
 block:w.heap[g]?=some (.cells #[.pointer (some ⟨x,0,none⟩),.pointer (some ⟨y,0,none⟩)] 38 (0,0))
 prog:a9 x X F w f1
 doc:bG (QD X.src.2.1 X.src.2.2) y E w f2
def nc (u:Value)(q:Pg):eM:=fun w f=>∃ g x y f1 f2,u=.pointer (some ⟨g,0,none⟩)∧BB g x y q.1 q.2.1 q.2.2 w f1 f2∧f=g::(f1++f2)
theorem nc.framed (u:Value)(q:Pg):bV (nc u q):=by
 rintro S w w' f ⟨g,x,y,f1,f2,e,⟨h1,h2,h3⟩,rfl⟩ hf hs
 exact⟨g,x,y,f1,f2,e,⟨(hf.block g (lt_of_block h1) (hs g (by simp))).trans h1,a9.framed _ _ _ h2 hf (fun k hk=>hs k (by simp[hk])),bG.framed (QD.framed _ _) _ _ h3 hf (fun k hk=>hs k (by simp[hk]))⟩,rfl⟩
theorem nc.within (u:Value)(q:Pg):bW (nc u q):=by
 rintro w f ⟨g,x,y,f1,f2,e,⟨h1,h2,h3⟩,rfl⟩ k hk
 rcases List.mem_cons.mp hk with rfl|hk
 ·exact lt_of_block h1
 ·rcases List.mem_append.mp hk with hk|hk
  ·exact a9.within _ _ _ h2 k hk
  ·exact bG.within (QD.within _ _) _ _ h3 k hk
theorem vk {g x y:Nat}{X X':ap}{F F':dN}{E E':bm}{w w1 w2:World}{f1 f2:List Nat}(h:BB g x y X F E w f1 f2)(hn:(g::(f1++f2)).Nodup)(h1:bP (a9 x X' F') f1 w w1)(h2:bP (bG (QD X.src.2.1 X.src.2.2) y E') f2 w1 w2)(hr:X'.src=X.src):
  bP (nc (.pointer (some ⟨g,0,none⟩)) (X',F',E')) (g::(f1++f2)) w w2:=by
 obtain⟨f1',a1,n1,s1,r1⟩:=h1
 obtain⟨f2',a2,n2,s2,r2⟩:=h2
 have wi1:=a9.within _ _ _ h.prog
 have wi2:=bG.within (QD.within _ _) _ _ h.doc
 have wg:=lt_of_block h.block
 have hsz:=r1.size
 rw[List.nodup_cons,List.nodup_append] at hn
 obtain⟨ng,nf1,nf2,nd⟩:=hn
 have hg1:g∉f1:=fun e=>ng (by simp[e])
 have hg2:g∉f2:=fun e=>ng (by simp[e])
 have d1:∀ k∈f1',k∉f2:=by
  intro k hk hk2
  rcases s1 k hk with h|h
  ·exact nd k h k hk2 rfl
  ·have:=wi2 k hk2;omega
 have w1l:=a9.within _ _ _ a1
 refine⟨g::(f1'++f2'),⟨g,x,y,f1',f2',rfl,⟨?_,a9.framed _ _ _ a1 r2 d1,?_⟩,rfl⟩,?_,?_,?_⟩
 ·exact (r2.block g (by omega) hg2).trans ((r1.block g wg hg1).trans h.block)
 ·show bG (QD X'.src.2.1 X'.src.2.2) y E' w2 f2'
  rw[hr]
  exact a2
 ·rw[List.nodup_cons,List.nodup_append]
  refine⟨?_,n1,n2,?_⟩
  ·intro hm
   rcases List.mem_append.mp hm with hm|hm
   ·rcases s1 g hm with h|h
    ·exact hg1 h
    ·omega
   ·rcases s2 g hm with h|h
    ·exact hg2 h
    ·omega
  ·rintro a ha b hb rfl
   rcases s2 a hb with h|h
   ·exact d1 a ha h
   ·have:=w1l a ha;omega
 ·intro k hk
  rcases List.mem_cons.mp hk with rfl|hk
  ·exact .inl (by simp)
  ·rcases List.mem_append.mp hk with hk|hk
   ·rcases s1 k hk with h|h
    ·exact .inl (by simp[h])
    ·exact .inr h
   ·rcases s2 k hk with h|h
    ·exact .inl (by simp[h])
    ·exact .inr (by omega)
 ·exact (r1.mono (fun k hk=>.inl (by simp[hk]))).trans (r2.mono (fun k hk=>.inl (by simp[hk])))
theorem BB.grown {g x y:Nat}{X:ap}{F:dN}{E:bm}{w w':World}{f1 f2:List Nat}(h:BB g x y X F E w f1 f2)(hf:Fr [] w w'):BB g x y X F E w' f1 f2:=
 ⟨(hf.block g (lt_of_block h.block) (by simp)).trans h.block,a9.framed _ _ _ h.prog hf (by simp),bG.framed (QD.framed _ _) _ _ h.doc hf (by simp)⟩
structure bU (g x y:Nat)(X:ap)(F:dN)(E:bm)(f1 f2:List Nat)(i:Nat)(w:World):Prop where
 pair:BB g x y X F E w f1 f2
 nodup:(g::(f1++f2)).Nodup
 good:bQ i X F E
 small:i≤100000000
theorem bU.grown {g x y:Nat}{X:ap}{F:dN}{E:bm}{f1 f2:List Nat}{i:Nat}{w w':World}(h:bU g x y X F E f1 f2 i w)(hf:Fr [] w w'):bU g x y X F E f1 f2 i w':=⟨h.pair.grown hf,h.nodup,h.good,h.small⟩
theorem bU.apart {g x y:Nat}{X:ap}{F:dN}{E:bm}{f1 f2:List Nat}{i:Nat}{w:World}(h:bU g x y X F E f1 f2 i w):g∉f1∧g∉f2∧(∀ k∈f2,k∉f1)∧f1.Nodup∧f2.Nodup∧(∀ k∈f1,k<w.heap.size)∧(∀ k∈f2,k<w.heap.size):=by
 have hn:=h.nodup
 rw[List.nodup_cons,List.nodup_append] at hn
 obtain⟨ng,nf1,nf2,nd⟩:=hn
 exact⟨fun e=>ng (by simp[e]),fun e=>ng (by simp[e]),fun k h2 h1=>nd k h1 k h2 rfl,nf1,nf2,a9.within _ _ _ h.pair.prog,bG.within (QD.within _ _) _ _ h.pair.doc⟩
theorem bU.doc {g x y:Nat}{X X':ap}{F F':dN}{E:bm}{f1 f2:List Nat}{i:Nat}{w W w1 w1':World}(h:bU g x y X F E f1 f2 i w)(hW:Fr [] w W)(h1:bP (a9 x X' F') f1 W w1)(hf:Fr [] w1 w1'):bG (QD X.src.2.1 X.src.2.2) y E w1' f2:=by
 obtain⟨_,_,_,_,r⟩:=h1
 exact bG.framed (QD.framed _ _) _ _ (bG.framed (QD.framed _ _) _ _ (h.grown hW).pair.doc r h.apart.2.2.1) hf (by simp)
def kV (g i:Nat)(f:List Nat)(w w':World):Prop:=∃ q':Pg,bP (nc (.pointer (some ⟨g,0,none⟩)) q') f w w'∧bQ (i+1) q'.1 q'.2.1 q'.2.2
def pH (f1 f2:List Nat)(A1 A2:eM)(w w':World):Prop:=∃ W W1,Fr [] w W∧bP A1 f1 W W1∧bP A2 f2 W1 w'
theorem bP.back {A:eM}{f:List Nat}{w w0 w':World}(h:bP A f w0 w')(hf:Fr [] w w0):bP A f w w':=by
 obtain⟨f',a,n,s,r⟩:=h
 refine⟨f',a,n,fun k hk=>?_,(hf.mono (fun k hk=>by cases hk)).trans r⟩
 rcases s k hk with h|h
 ·exact .inl h
 ·exact .inr (Nat.le_trans hf.size h)
theorem bU.fin {g x y:Nat}{X X':ap}{F F':dN}{E E':bm}{f1 f2:List Nat}{i:Nat}{w w':World}(h:bU g x y X F E f1 f2 i w)(hg:bQ (i+1) X' F' E')(hr:X'.src=X.src)(hb:pH f1 f2 (a9 x X' F') (bG (QD X.src.2.1 X.src.2.2) y E') w w'):kV g i (g::(f1++f2)) w w':=by
 obtain⟨W,W1,hW,h1,h2⟩:=hb
 exact⟨(X',F',E'),vk h.pair h.nodup (h1.back hW) h2 hr,hg⟩
theorem CH (g x y:Nat)(f1 f2:List Nat)(A1 A2:eM)(r1 r2:Int)(a b c:Int)(s:ByteArray)(w:World)(hb:w.heap[g]?=some (.cells #[.pointer (some ⟨x,0,none⟩),.pointer (some ⟨y,0,none⟩)] 38 (0,0)))(hg1:g∉f1)(_hg2:g∉f2)(hl1:∀ k∈f1,k<w.heap.size)(hl2:∀ k∈f2,k<w.heap.size)
  (HPC:Hid (∀ W,Fr [] w W→Calls Tryz.prog 14 #[.pointer (some ⟨x,0,none⟩)] W fun e w'=>e=.returned (.tuple #[.int .i64 r1,.int .i64 r2])∧bP A1 f1 W w'))
  (HDC:Hid (∀ W W1 W1',Fr [] w W→bP A1 f1 W W1→Fr [] W1 W1'→Calls Tryz.prog 15 #[.pointer (some ⟨y,0,none⟩)] W1' fun e w'=>(e=.returned (.tuple #[.int .i64 r1,.int .i64 r2])∧bP A2 f2 W1 w')∧Fr f2 W1' w')) :
  Calls Tryz.prog 8 #[.pointer (some ⟨g,0,none⟩),ey 2 a b c s] w fun e w'=>e=.returned (.bool true)∧pH f1 f2 A1 A2 w w':=by
 have c0:w.cell? ⟨g,0,none⟩=some (.pointer (some ⟨x,0,none⟩)):=by rw[cell_of_row _ _ _ _ _ _ hb];rfl
 have c1:w.cell? ⟨g,1,none⟩=some (.pointer (some ⟨y,0,none⟩)):=by rw[cell_of_row _ _ _ _ _ _ hb];rfl
 have hgl:=lt_of_block hb
 have hgz:g≠w.heap.size:=by omega
 have hz1:w.heap.size∉f1:=fun e=>by have:=hl1 _ e;omega
 have hz2:w.heap.size∉f2:=fun e=>by have:=hl2 _ e;omega
 have q1:(r1==r1)=true:=by simp
 have q2:(r2==r2)=true:=by simp
 clear hl1 hl2
 go_enter Tryz.func8,Tryz.ntmps8
 go_wp2_with fail
 go_at_call 14
 refine (HPC.out _ (aB w _)).mono ?_
 rintro e w1 ⟨rfl,ht⟩
 have HT:=af ht
 obtain⟨_,_,_,_,hfr⟩:=ht
 have c1':=bF hfr (b:=g) (i:=1) (v:=.pointer (some ⟨y,0,none⟩)) ((World.cell?_alloc_lt _ _ _ hgl).trans c1) hg1
 clear hfr c1
 go_wp2_with fail
 go_at_call 15
 refine (HDC.out _ _ _ (aB w _) HT.out (Fr.refl _ _)).mono ?_
 rintro e w2 ⟨⟨rfl,ht2⟩,_⟩
 have HT2:=af ht2
 clear ht2 c1'
 go_wp2_with (go_at_call 13;refine (fV _ _).mono ?_;rintro e w' ⟨rfl,rfl⟩)
 go_ret
 exact⟨rfl,_,_,aB w _,HT.out,HT2.out⟩
theorem Fn (g x y:Nat)(f1 f2:List Nat)(A1 A2:eM)(r1:Int)(a b c:Int)(s:ByteArray)(w:World)(hb:w.heap[g]?=some (.cells #[.pointer (some ⟨x,0,none⟩),.pointer (some ⟨y,0,none⟩)] 38 (0,0)))(hg1:g∉f1)(hg2:g∉f2)(hl1:∀ k∈f1,k<w.heap.size)(hl2:∀ k∈f2,k<w.heap.size)
  (HPC:Hid (∀ W,Fr [] w W→Calls Tryz.prog 16 #[.pointer (some ⟨x,0,none⟩),.int .i64 b,.string s] W fun e w'=>e=.returned (.int .i64 r1)∧bP A1 f1 W w'))
  (HDC:Hid (∀ W W1 W1',Fr [] w W→bP A1 f1 W W1→Fr [] W1 W1'→Calls Tryz.prog 17 #[.pointer (some ⟨y,0,none⟩),.int .i64 b,.string s] W1' fun e w'=>(e=.returned (.int .i64 r1)∧bP A2 f2 W1 w')∧Fr f2 W1' w')) :
  Calls Tryz.prog 8 #[.pointer (some ⟨g,0,none⟩),ey 3 a b c s] w fun e w'=>e=.returned (.bool true)∧pH f1 f2 A1 A2 w w':=by
 have c0:w.cell? ⟨g,0,none⟩=some (.pointer (some ⟨x,0,none⟩)):=by rw[cell_of_row _ _ _ _ _ _ hb];rfl
 have c1:w.cell? ⟨g,1,none⟩=some (.pointer (some ⟨y,0,none⟩)):=by rw[cell_of_row _ _ _ _ _ _ hb];rfl
 have hgl:=lt_of_block hb
 have hgz:g≠w.heap.size:=by omega
 have hz1:w.heap.size∉f1:=fun e=>by have:=hl1 _ e;omega
 have hz2:w.heap.size∉f2:=fun e=>by have:=hl2 _ e;omega
 have q1:(r1==r1)=true:=by simp
 clear hl1 hl2
 go_enter Tryz.func8,Tryz.ntmps8
 go_wp2_with fail
 go_region_held3 (fun W=>W.cell? ⟨g,0,none⟩=some (.pointer (some ⟨x,0,none⟩))∧W.cell? ⟨w.heap.size,2,none⟩=some (.int .i64 b)∧W.cell? ⟨w.heap.size,4,none⟩=some (.string s)) (first|go_keep|(exact⟨k0,k2,k4⟩)) (first
   |(go_at_call 16
     refine (HPC.out _ (au (aB w _))).mono ?_
     rintro e w1 ⟨rfl,ht⟩
     have HT:=af ht
     obtain⟨_,_,_,_,hfr⟩:=ht
     have k0:=bF hfr (aE (au (aB w _)) c0) hg1
     have k1:=bF hfr (aE (au (aB w _)) c1) hg1
     have k2:=bF hfr (aE (au (Fr.refl _ _)) (eR (w:=w) (cs:=#[.int .i64 3,.int .i64 a,.int .i64 b,.int .i64 c,.string s]) (t:=29) (j:=2) rfl)) hz1
     have k4:=bF hfr (aE (au (Fr.refl _ _)) (eR (w:=w) (cs:=#[.int .i64 3,.int .i64 a,.int .i64 b,.int .i64 c,.string s]) (t:=29) (j:=4) rfl)) hz1
     clear hfr))
 go_wp2_with fail
 go_region_held3 (fun W=>W.cell? ⟨g,1,none⟩=some (.pointer (some ⟨y,0,none⟩))∧W.cell? ⟨w.heap.size,2,none⟩=some (.int .i64 b)∧W.cell? ⟨w.heap.size,4,none⟩=some (.string s)) (first|go_keep|(exact⟨m1,m2,m4⟩)) (first
   |(go_at_call 17
     refine (HDC.out _ _ _ (au (aB w _)) HT.out (au (Fr.refl _ _))).mono ?_
     rintro e w2 ⟨⟨rfl,ht2⟩,hfr⟩
     have HT2:=af ht2
     have m1:=bF hfr (aE (au (Fr.refl _ _)) k1) hg2
     have m2:=bF hfr (aE (au (Fr.refl _ _)) k2) hz2
     have m4:=bF hfr (aE (au (Fr.refl _ _)) k4) hz2
     clear hfr ht2))
 go_wp2_with (go_at_call 13;refine (fV _ _).mono ?_;rintro e w' ⟨rfl,rfl⟩)
 go_ret
 exact⟨rfl,_,_,au (aB w _),HT.out,HT2.out⟩
theorem BO (g x y:Nat)(f1 f2:List Nat)(A1 A2:eM)(r1:Int)(a b c:Int)(s:ByteArray)(w:World)(hb:w.heap[g]?=some (.cells #[.pointer (some ⟨x,0,none⟩),.pointer (some ⟨y,0,none⟩)] 38 (0,0)))(hg1:g∉f1)(hg2:g∉f2)(hl1:∀ k∈f1,k<w.heap.size)(hl2:∀ k∈f2,k<w.heap.size)
  (HPC:Hid (∀ W,Fr [] w W→Calls Tryz.prog 18 #[.pointer (some ⟨x,0,none⟩),.int .i64 b,.string s] W fun e w'=>e=.returned (.int .i64 r1)∧bP A1 f1 W w'))
  (HDC:Hid (∀ W W1 W1',Fr [] w W→bP A1 f1 W W1→Fr [] W1 W1'→Calls Tryz.prog 19 #[.pointer (some ⟨y,0,none⟩),.int .i64 b,.string s] W1' fun e w'=>(e=.returned (.int .i64 r1)∧bP A2 f2 W1 w')∧Fr f2 W1' w')) :
  Calls Tryz.prog 8 #[.pointer (some ⟨g,0,none⟩),ey 4 a b c s] w fun e w'=>e=.returned (.bool true)∧pH f1 f2 A1 A2 w w':=by
 have c0:w.cell? ⟨g,0,none⟩=some (.pointer (some ⟨x,0,none⟩)):=by rw[cell_of_row _ _ _ _ _ _ hb];rfl
 have c1:w.cell? ⟨g,1,none⟩=some (.pointer (some ⟨y,0,none⟩)):=by rw[cell_of_row _ _ _ _ _ _ hb];rfl
 have hgl:=lt_of_block hb
 have hgz:g≠w.heap.size:=by omega
 have hz1:w.heap.size∉f1:=fun e=>by have:=hl1 _ e;omega
 have hz2:w.heap.size∉f2:=fun e=>by have:=hl2 _ e;omega
 have q1:(r1==r1)=true:=by simp
 clear hl1 hl2
 go_enter Tryz.func8,Tryz.ntmps8
 go_wp2_with fail
 go_region_held3 (fun W=>W.cell? ⟨g,0,none⟩=some (.pointer (some ⟨x,0,none⟩))∧W.cell? ⟨w.heap.size,2,none⟩=some (.int .i64 b)∧W.cell? ⟨w.heap.size,4,none⟩=some (.string s)) (first|go_keep|(exact⟨k0,k2,k4⟩)) (first
   |(go_at_call 18
     refine (HPC.out _ (au (aB w _))).mono ?_
     rintro e w1 ⟨rfl,ht⟩
     have HT:=af ht
     obtain⟨_,_,_,_,hfr⟩:=ht
     have k0:=bF hfr (aE (au (aB w _)) c0) hg1
     have k1:=bF hfr (aE (au (aB w _)) c1) hg1
     have k2:=bF hfr (aE (au (Fr.refl _ _)) (eR (w:=w) (cs:=#[.int .i64 4,.int .i64 a,.int .i64 b,.int .i64 c,.string s]) (t:=29) (j:=2) rfl)) hz1
     have k4:=bF hfr (aE (au (Fr.refl _ _)) (eR (w:=w) (cs:=#[.int .i64 4,.int .i64 a,.int .i64 b,.int .i64 c,.string s]) (t:=29) (j:=4) rfl)) hz1
     clear hfr))
 go_wp2_with fail
 go_region_held3 (fun W=>W.cell? ⟨g,1,none⟩=some (.pointer (some ⟨y,0,none⟩))∧W.cell? ⟨w.heap.size,2,none⟩=some (.int .i64 b)∧W.cell? ⟨w.heap.size,4,none⟩=some (.string s)) (first|go_keep|(exact⟨m1,m2,m4⟩)) (first
   |(go_at_call 19
     refine (HDC.out _ _ _ (au (aB w _)) HT.out (au (Fr.refl _ _))).mono ?_
     rintro e w2 ⟨⟨rfl,ht2⟩,hfr⟩
     have HT2:=af ht2
     have m1:=bF hfr (aE (au (Fr.refl _ _)) k1) hg2
     have m2:=bF hfr (aE (au (Fr.refl _ _)) k2) hz2
     have m4:=bF hfr (aE (au (Fr.refl _ _)) k4) hz2
     clear hfr ht2))
 go_wp2_with (go_at_call 13;refine (fV _ _).mono ?_;rintro e w' ⟨rfl,rfl⟩)
 go_ret
 exact⟨rfl,_,_,au (aB w _),HT.out,HT2.out⟩
theorem uD (g x y:Nat)(f1 f2:List Nat)(A1 A2:eM)(r1:ByteArray)(r2:Int)(a b c:Int)(s:ByteArray)(w:World)(hb:w.heap[g]?=some (.cells #[.pointer (some ⟨x,0,none⟩),.pointer (some ⟨y,0,none⟩)] 38 (0,0)))(hg1:g∉f1)(hg2:g∉f2)(hl1:∀ k∈f1,k<w.heap.size)(hl2:∀ k∈f2,k<w.heap.size)
  (HPC:Hid (∀ W,Fr [] w W→Calls Tryz.prog 20 #[.pointer (some ⟨x,0,none⟩),.int .i64 b] W fun e w'=>e=.returned (.tuple #[.string r1,.int .i64 r2])∧bP A1 f1 W w'))
  (HDC:Hid (∀ W W1 W1',Fr [] w W→bP A1 f1 W W1→Fr [] W1 W1'→Calls Tryz.prog 21 #[.pointer (some ⟨y,0,none⟩),.int .i64 b] W1' fun e w'=>(e=.returned (.tuple #[.string r1,.int .i64 r2])∧bP A2 f2 W1 w')∧Fr f2 W1' w')) :
  Calls Tryz.prog 8 #[.pointer (some ⟨g,0,none⟩),ey 5 a b c s] w fun e w'=>e=.returned (.bool true)∧pH f1 f2 A1 A2 w w':=by
 have c0:w.cell? ⟨g,0,none⟩=some (.pointer (some ⟨x,0,none⟩)):=by rw[cell_of_row _ _ _ _ _ _ hb];rfl
 have c1:w.cell? ⟨g,1,none⟩=some (.pointer (some ⟨y,0,none⟩)):=by rw[cell_of_row _ _ _ _ _ _ hb];rfl
 have hgl:=lt_of_block hb
 have hgz:g≠w.heap.size:=by omega
 have hz1:w.heap.size∉f1:=fun e=>by have:=hl1 _ e;omega
 have hz2:w.heap.size∉f2:=fun e=>by have:=hl2 _ e;omega
 have q1:(r1.toList==r1.toList)=true:=by simp
 have q2:(r2==r2)=true:=by simp
 clear hl1 hl2
 go_enter Tryz.func8,Tryz.ntmps8
 go_wp2_with fail
 go_region_held3 (fun W=>W.cell? ⟨g,0,none⟩=some (.pointer (some ⟨x,0,none⟩))∧W.cell? ⟨w.heap.size,2,none⟩=some (.int .i64 b)) (first|go_keep|(exact⟨k0,k2⟩)) (first
   |(go_at_call 20
     refine (HPC.out _ (au (aB w _))).mono ?_
     rintro e w1 ⟨rfl,ht⟩
     have HT:=af ht
     obtain⟨_,_,_,_,hfr⟩:=ht
     have k0:=bF hfr (aE (au (aB w _)) c0) hg1
     have k1:=bF hfr (aE (au (aB w _)) c1) hg1
     have k2:=bF hfr (aE (au (Fr.refl _ _)) (eR (w:=w) (cs:=#[.int .i64 5,.int .i64 a,.int .i64 b,.int .i64 c,.string s]) (t:=29) (j:=2) rfl)) hz1
     clear hfr))
 go_wp2_with fail
 go_region_held3 (fun W=>W.cell? ⟨g,1,none⟩=some (.pointer (some ⟨y,0,none⟩))∧W.cell? ⟨w.heap.size,2,none⟩=some (.int .i64 b)) (first|go_keep|(exact⟨m1,m2⟩)) (first
   |(go_at_call 21
     refine (HDC.out _ _ _ (au (aB w _)) HT.out (au (Fr.refl _ _))).mono ?_
     rintro e w2 ⟨⟨rfl,ht2⟩,hfr⟩
     have HT2:=af ht2
     have m1:=bF hfr (aE (au (Fr.refl _ _)) k1) hg2
     have m2:=bF hfr (aE (au (Fr.refl _ _)) k2) hz2
     clear hfr ht2))
 go_wp2_with (go_at_call 13;refine (fV _ _).mono ?_;rintro e w' ⟨rfl,rfl⟩)
 go_ret
 exact⟨rfl,_,_,au (aB w _),HT.out,HT2.out⟩
theorem zK (g x y:Nat)(f1 f2:List Nat)(A1 A2:eM)(r1:Int)(a b c:Int)(s:ByteArray)(w:World)(hb:w.heap[g]?=some (.cells #[.pointer (some ⟨x,0,none⟩),.pointer (some ⟨y,0,none⟩)] 38 (0,0)))(hg1:g∉f1)(hg2:g∉f2)(hl1:∀ k∈f1,k<w.heap.size)(hl2:∀ k∈f2,k<w.heap.size)
  (HPC:Hid (∀ W,Fr [] w W→Calls Tryz.prog 22 #[.pointer (some ⟨x,0,none⟩),.int .i64 b] W fun e w'=>e=.returned (.int .i64 r1)∧bP A1 f1 W w'))
  (HDC:Hid (∀ W W1 W1',Fr [] w W→bP A1 f1 W W1→Fr [] W1 W1'→Calls Tryz.prog 23 #[.pointer (some ⟨y,0,none⟩),.int .i64 b] W1' fun e w'=>(e=.returned (.int .i64 r1)∧bP A2 f2 W1 w')∧Fr f2 W1' w')) :
  Calls Tryz.prog 8 #[.pointer (some ⟨g,0,none⟩),ey 6 a b c s] w fun e w'=>e=.returned (.bool true)∧pH f1 f2 A1 A2 w w':=by
 have c0:w.cell? ⟨g,0,none⟩=some (.pointer (some ⟨x,0,none⟩)):=by rw[cell_of_row _ _ _ _ _ _ hb];rfl
 have c1:w.cell? ⟨g,1,none⟩=some (.pointer (some ⟨y,0,none⟩)):=by rw[cell_of_row _ _ _ _ _ _ hb];rfl
 have hgl:=lt_of_block hb
 have hgz:g≠w.heap.size:=by omega
 have hz1:w.heap.size∉f1:=fun e=>by have:=hl1 _ e;omega
 have hz2:w.heap.size∉f2:=fun e=>by have:=hl2 _ e;omega
 have q1:(r1==r1)=true:=by simp
 clear hl1 hl2
 go_enter Tryz.func8,Tryz.ntmps8
 go_wp2_with fail
 go_region_held3 (fun W=>W.cell? ⟨g,0,none⟩=some (.pointer (some ⟨x,0,none⟩))∧W.cell? ⟨w.heap.size,2,none⟩=some (.int .i64 b)) (first|go_keep|(exact⟨k0,k2⟩)) (first
   |(go_at_call 22
     refine (HPC.out _ (au (aB w _))).mono ?_
     rintro e w1 ⟨rfl,ht⟩
     have HT:=af ht
     obtain⟨_,_,_,_,hfr⟩:=ht
     have k0:=bF hfr (aE (au (aB w _)) c0) hg1
     have k1:=bF hfr (aE (au (aB w _)) c1) hg1
     have k2:=bF hfr (aE (au (Fr.refl _ _)) (eR (w:=w) (cs:=#[.int .i64 6,.int .i64 a,.int .i64 b,.int .i64 c,.string s]) (t:=29) (j:=2) rfl)) hz1
     clear hfr))
 go_wp2_with fail
 go_region_held3 (fun W=>W.cell? ⟨g,1,none⟩=some (.pointer (some ⟨y,0,none⟩))∧W.cell? ⟨w.heap.size,2,none⟩=some (.int .i64 b)) (first|go_keep|(exact⟨m1,m2⟩)) (first
   |(go_at_call 23
     refine (HDC.out _ _ _ (au (aB w _)) HT.out (au (Fr.refl _ _))).mono ?_
     rintro e w2 ⟨⟨rfl,ht2⟩,hfr⟩
     have HT2:=af ht2
     have m1:=bF hfr (aE (au (Fr.refl _ _)) k1) hg2
     have m2:=bF hfr (aE (au (Fr.refl _ _)) k2) hz2
     clear hfr ht2))
 go_wp2_with (go_at_call 13;refine (fV _ _).mono ?_;rintro e w' ⟨rfl,rfl⟩)
 go_ret
 exact⟨rfl,_,_,au (aB w _),HT.out,HT2.out⟩
theorem xY (g x y:Nat)(f1 f2:List Nat)(A1 A2:eM)(r1 r2:Int)(a b c:Int)(s:ByteArray)(w:World)(hb:w.heap[g]?=some (.cells #[.pointer (some ⟨x,0,none⟩),.pointer (some ⟨y,0,none⟩)] 38 (0,0)))(hg1:g∉f1)(hg2:g∉f2)(hl1:∀ k∈f1,k<w.heap.size)(hl2:∀ k∈f2,k<w.heap.size)
  (HPC:Hid (∀ W,Fr [] w W→Calls Tryz.prog 24 #[.pointer (some ⟨x,0,none⟩),.int .i64 b] W fun e w'=>e=.returned (.tuple #[.int .i64 r1,.int .i64 r2])∧bP A1 f1 W w'))
  (HDC:Hid (∀ W W1 W1',Fr [] w W→bP A1 f1 W W1→Fr [] W1 W1'→Calls Tryz.prog 25 #[.pointer (some ⟨y,0,none⟩),.int .i64 b] W1' fun e w'=>(e=.returned (.tuple #[.int .i64 r1,.int .i64 r2])∧bP A2 f2 W1 w')∧Fr f2 W1' w')) :
  Calls Tryz.prog 9 #[.pointer (some ⟨g,0,none⟩),ey 7 a b c s] w fun e w'=>e=.returned (.bool true)∧pH f1 f2 A1 A2 w w':=by
 have c0:w.cell? ⟨g,0,none⟩=some (.pointer (some ⟨x,0,none⟩)):=by rw[cell_of_row _ _ _ _ _ _ hb];rfl
 have c1:w.cell? ⟨g,1,none⟩=some (.pointer (some ⟨y,0,none⟩)):=by rw[cell_of_row _ _ _ _ _ _ hb];rfl
 have hgl:=lt_of_block hb
 have hgz:g≠w.heap.size:=by omega
 have hz1:w.heap.size∉f1:=fun e=>by have:=hl1 _ e;omega
 have hz2:w.heap.size∉f2:=fun e=>by have:=hl2 _ e;omega
 have q1:(r1==r1)=true:=by simp
 have q2:(r2==r2)=true:=by simp
 clear hl1 hl2
 go_enter Tryz.func9,Tryz.ntmps9
 go_wp2_with fail
 go_region_held3 (fun W=>W.cell? ⟨g,0,none⟩=some (.pointer (some ⟨x,0,none⟩))∧W.cell? ⟨w.heap.size,2,none⟩=some (.int .i64 b)) (first|go_keep|(exact⟨k0,k2⟩)) (first
   |(go_at_call 24
     refine (HPC.out _ (au (aB w _))).mono ?_
     rintro e w1 ⟨rfl,ht⟩
     have HT:=af ht
     obtain⟨_,_,_,_,hfr⟩:=ht
     have k0:=bF hfr (aE (au (aB w _)) c0) hg1
     have k1:=bF hfr (aE (au (aB w _)) c1) hg1
     have k2:=bF hfr (aE (au (Fr.refl _ _)) (eR (w:=w) (cs:=#[.int .i64 7,.int .i64 a,.int .i64 b,.int .i64 c,.string s]) (t:=29) (j:=2) rfl)) hz1
     clear hfr))
 go_wp2_with fail
 go_region_held3 (fun W=>W.cell? ⟨g,1,none⟩=some (.pointer (some ⟨y,0,none⟩))∧W.cell? ⟨w.heap.size,2,none⟩=some (.int .i64 b)) (first|go_keep|(exact⟨m1,m2⟩)) (first
   |(go_at_call 25
     refine (HDC.out _ _ _ (au (aB w _)) HT.out (au (Fr.refl _ _))).mono ?_
     rintro e w2 ⟨⟨rfl,ht2⟩,hfr⟩
     have HT2:=af ht2
     have m1:=bF hfr (aE (au (Fr.refl _ _)) k1) hg2
     have m2:=bF hfr (aE (au (Fr.refl _ _)) k2) hz2
     clear hfr ht2))
 go_wp2_with (go_at_call 13;refine (fV _ _).mono ?_;rintro e w' ⟨rfl,rfl⟩)
 go_ret
 exact⟨rfl,_,_,au (aB w _),HT.out,HT2.out⟩
theorem oL (g x y:Nat)(f1 f2:List Nat)(A1 A2:eM)(r1:ByteArray)(r2:Int)(a b c:Int)(s:ByteArray)(w:World)(hb:w.heap[g]?=some (.cells #[.pointer (some ⟨x,0,none⟩),.pointer (some ⟨y,0,none⟩)] 38 (0,0)))(hg1:g∉f1)(hg2:g∉f2)(hl1:∀ k∈f1,k<w.heap.size)(hl2:∀ k∈f2,k<w.heap.size)
  (HPC:Hid (∀ W,Fr [] w W→Calls Tryz.prog 26 #[.pointer (some ⟨x,0,none⟩),.int .i64 b] W fun e w'=>e=.returned (.tuple #[.string r1,.int .i64 r2])∧bP A1 f1 W w'))
  (HDC:Hid (∀ W W1 W1',Fr [] w W→bP A1 f1 W W1→Fr [] W1 W1'→Calls Tryz.prog 27 #[.pointer (some ⟨y,0,none⟩),.int .i64 b] W1' fun e w'=>(e=.returned (.tuple #[.string r1,.int .i64 r2])∧bP A2 f2 W1 w')∧Fr f2 W1' w')) :
  Calls Tryz.prog 9 #[.pointer (some ⟨g,0,none⟩),ey 8 a b c s] w fun e w'=>e=.returned (.bool true)∧pH f1 f2 A1 A2 w w':=by
 have c0:w.cell? ⟨g,0,none⟩=some (.pointer (some ⟨x,0,none⟩)):=by rw[cell_of_row _ _ _ _ _ _ hb];rfl
 have c1:w.cell? ⟨g,1,none⟩=some (.pointer (some ⟨y,0,none⟩)):=by rw[cell_of_row _ _ _ _ _ _ hb];rfl
 have hgl:=lt_of_block hb
 have hgz:g≠w.heap.size:=by omega
 have hz1:w.heap.size∉f1:=fun e=>by have:=hl1 _ e;omega
 have hz2:w.heap.size∉f2:=fun e=>by have:=hl2 _ e;omega
 have q1:(r1.toList==r1.toList)=true:=by simp
 have q2:(r2==r2)=true:=by simp
 clear hl1 hl2
 go_enter Tryz.func9,Tryz.ntmps9
 go_wp2_with fail
 go_region_held3 (fun W=>W.cell? ⟨g,0,none⟩=some (.pointer (some ⟨x,0,none⟩))∧W.cell? ⟨w.heap.size,2,none⟩=some (.int .i64 b)) (first|go_keep|(exact⟨k0,k2⟩)) (first
   |(go_at_call 26
     refine (HPC.out _ (au (aB w _))).mono ?_
     rintro e w1 ⟨rfl,ht⟩
     have HT:=af ht
     obtain⟨_,_,_,_,hfr⟩:=ht
     have k0:=bF hfr (aE (au (aB w _)) c0) hg1
     have k1:=bF hfr (aE (au (aB w _)) c1) hg1
     have k2:=bF hfr (aE (au (Fr.refl _ _)) (eR (w:=w) (cs:=#[.int .i64 8,.int .i64 a,.int .i64 b,.int .i64 c,.string s]) (t:=29) (j:=2) rfl)) hz1
     clear hfr))
 go_wp2_with fail
 go_region_held3 (fun W=>W.cell? ⟨g,1,none⟩=some (.pointer (some ⟨y,0,none⟩))∧W.cell? ⟨w.heap.size,2,none⟩=some (.int .i64 b)) (first|go_keep|(exact⟨m1,m2⟩)) (first
   |(go_at_call 27
     refine (HDC.out _ _ _ (au (aB w _)) HT.out (au (Fr.refl _ _))).mono ?_
     rintro e w2 ⟨⟨rfl,ht2⟩,hfr⟩
     have HT2:=af ht2
     have m1:=bF hfr (aE (au (Fr.refl _ _)) k1) hg2
     have m2:=bF hfr (aE (au (Fr.refl _ _)) k2) hz2
     clear hfr ht2))
 go_wp2_with (go_at_call 13;refine (fV _ _).mono ?_;rintro e w' ⟨rfl,rfl⟩)
 go_ret
 exact⟨rfl,_,_,au (aB w _),HT.out,HT2.out⟩
theorem Ea (g x y:Nat)(f1 f2:List Nat)(A1 A2:eM)(r1 r2 r3:Int)(a b c:Int)(s:ByteArray)(w:World)(hb:w.heap[g]?=some (.cells #[.pointer (some ⟨x,0,none⟩),.pointer (some ⟨y,0,none⟩)] 38 (0,0)))(hg1:g∉f1)(hg2:g∉f2)(hl1:∀ k∈f1,k<w.heap.size)(hl2:∀ k∈f2,k<w.heap.size)
  (HPC:Hid (∀ W,Fr [] w W→Calls Tryz.prog 28 #[.pointer (some ⟨x,0,none⟩),.int .i64 b,.int .i64 c] W fun e w'=>e=.returned (.tuple #[.int .i64 r1,.int .i64 r2,.int .i64 r3])∧bP A1 f1 W w'))
  (HDC:Hid (∀ W W1 W1',Fr [] w W→bP A1 f1 W W1→Fr [] W1 W1'→Calls Tryz.prog 29 #[.pointer (some ⟨y,0,none⟩),.int .i64 b,.int .i64 c] W1' fun e w'=>(e=.returned (.tuple #[.int .i64 r1,.int .i64 r2,.int .i64 r3])∧bP A2 f2 W1 w')∧Fr f2 W1' w')) :
  Calls Tryz.prog 9 #[.pointer (some ⟨g,0,none⟩),ey 9 a b c s] w fun e w'=>e=.returned (.bool true)∧pH f1 f2 A1 A2 w w':=by
 have c0:w.cell? ⟨g,0,none⟩=some (.pointer (some ⟨x,0,none⟩)):=by rw[cell_of_row _ _ _ _ _ _ hb];rfl
 have c1:w.cell? ⟨g,1,none⟩=some (.pointer (some ⟨y,0,none⟩)):=by rw[cell_of_row _ _ _ _ _ _ hb];rfl
 have hgl:=lt_of_block hb
 have hgz:g≠w.heap.size:=by omega
 have hz1:w.heap.size∉f1:=fun e=>by have:=hl1 _ e;omega
 have hz2:w.heap.size∉f2:=fun e=>by have:=hl2 _ e;omega
 have q1:(r1==r1)=true:=by simp
 have q2:(r2==r2)=true:=by simp
 have q3:(r3==r3)=true:=by simp
 clear hl1 hl2
 go_enter Tryz.func9,Tryz.ntmps9
 go_wp2_with fail
 go_region_held3 (fun W=>W.cell? ⟨g,0,none⟩=some (.pointer (some ⟨x,0,none⟩))∧W.cell? ⟨w.heap.size,2,none⟩=some (.int .i64 b)∧W.cell? ⟨w.heap.size,3,none⟩=some (.int .i64 c)) (first|go_keep|(exact⟨k0,k2,k3⟩)) (first
   |(go_at_call 28
     refine (HPC.out _ (au (aB w _))).mono ?_
     rintro e w1 ⟨rfl,ht⟩
     have HT:=af ht
     obtain⟨_,_,_,_,hfr⟩:=ht
     have k0:=bF hfr (aE (au (aB w _)) c0) hg1
     have k1:=bF hfr (aE (au (aB w _)) c1) hg1
     have k2:=bF hfr (aE (au (Fr.refl _ _)) (eR (w:=w) (cs:=#[.int .i64 9,.int .i64 a,.int .i64 b,.int .i64 c,.string s]) (t:=29) (j:=2) rfl)) hz1
     have k3:=bF hfr (aE (au (Fr.refl _ _)) (eR (w:=w) (cs:=#[.int .i64 9,.int .i64 a,.int .i64 b,.int .i64 c,.string s]) (t:=29) (j:=3) rfl)) hz1
     clear hfr))
 go_wp2_with fail
 go_region_held3 (fun W=>W.cell? ⟨g,1,none⟩=some (.pointer (some ⟨y,0,none⟩))∧W.cell? ⟨w.heap.size,2,none⟩=some (.int .i64 b)∧W.cell? ⟨w.heap.size,3,none⟩=some (.int .i64 c)) (first|go_keep|(exact⟨m1,m2,m3⟩)) (first
   |(go_at_call 29
     refine (HDC.out _ _ _ (au (aB w _)) HT.out (au (Fr.refl _ _))).mono ?_
     rintro e w2 ⟨⟨rfl,ht2⟩,hfr⟩
     have HT2:=af ht2
     have m1:=bF hfr (aE (au (Fr.refl _ _)) k1) hg2
     have m2:=bF hfr (aE (au (Fr.refl _ _)) k2) hz2
     have m3:=bF hfr (aE (au (Fr.refl _ _)) k3) hz2
     clear hfr ht2))
 go_wp2_with (go_at_call 13;refine (fV _ _).mono ?_;rintro e w' ⟨rfl,rfl⟩)
 go_ret
 exact⟨rfl,_,_,au (aB w _),HT.out,HT2.out⟩
theorem Ax (g x y:Nat)(f1 f2:List Nat)(A1 A2:eM)(r1:Int)(a b c:Int)(s:ByteArray)(w:World)(hb:w.heap[g]?=some (.cells #[.pointer (some ⟨x,0,none⟩),.pointer (some ⟨y,0,none⟩)] 38 (0,0)))(hg1:g∉f1)(_hg2:g∉f2)(hl1:∀ k∈f1,k<w.heap.size)(hl2:∀ k∈f2,k<w.heap.size)
  (HPC:Hid (∀ W,Fr [] w W→Calls Tryz.prog 30 #[.pointer (some ⟨x,0,none⟩)] W fun e w'=>e=.returned (.int .i64 r1)∧bP A1 f1 W w'))
  (HDC:Hid (∀ W W1 W1',Fr [] w W→bP A1 f1 W W1→Fr [] W1 W1'→Calls Tryz.prog 31 #[.pointer (some ⟨y,0,none⟩)] W1' fun e w'=>(e=.returned (.int .i64 r1)∧bP A2 f2 W1 w')∧Fr f2 W1' w')) :
  Calls Tryz.prog 9 #[.pointer (some ⟨g,0,none⟩),ey 11 a b c s] w fun e w'=>e=.returned (.bool true)∧pH f1 f2 A1 A2 w w':=by
 have c0:w.cell? ⟨g,0,none⟩=some (.pointer (some ⟨x,0,none⟩)):=by rw[cell_of_row _ _ _ _ _ _ hb];rfl
 have c1:w.cell? ⟨g,1,none⟩=some (.pointer (some ⟨y,0,none⟩)):=by rw[cell_of_row _ _ _ _ _ _ hb];rfl
 have hgl:=lt_of_block hb
 have hgz:g≠w.heap.size:=by omega
 have hz1:w.heap.size∉f1:=fun e=>by have:=hl1 _ e;omega
 have hz2:w.heap.size∉f2:=fun e=>by have:=hl2 _ e;omega
 have q1:(r1==r1)=true:=by simp
 clear hl1 hl2
 go_enter Tryz.func9,Tryz.ntmps9
 go_wp2_with fail
 go_at_call 30
 refine (HPC.out _ (aB w _)).mono ?_
 rintro e w1 ⟨rfl,ht⟩
 have HT:=af ht
 obtain⟨_,_,_,_,hfr⟩:=ht
 have c1':=bF hfr (b:=g) (i:=1) (v:=.pointer (some ⟨y,0,none⟩)) ((World.cell?_alloc_lt _ _ _ hgl).trans c1) hg1
 clear hfr c1
 go_wp2_with fail
 go_at_call 31
 refine (HDC.out _ _ _ (aB w _) HT.out (Fr.refl _ _)).mono ?_
 rintro e w2 ⟨⟨rfl,ht2⟩,_⟩
 have HT2:=af ht2
 clear ht2 c1'
 go_wp2_with (go_at_call 13;refine (fV _ _).mono ?_;rintro e w' ⟨rfl,rfl⟩)
 go_ret
 exact⟨rfl,_,_,aB w _,HT.out,HT2.out⟩
theorem Dm (g x y:Nat)(f1:List Nat)(A1:eM)(r1:Nat)(ak:Option Addr)(ck:Nat)(a b c:Int)(s:ByteArray)(w:World)(hb:w.heap[g]?=some (.cells #[.pointer (some ⟨x,0,none⟩),.pointer (some ⟨y,0,none⟩)] 38 (0,0)))(hg1:g∉f1)(hy:w.cell? ⟨y,3,none⟩=some (.slice ak r1 ck))(hy1:y∉f1)
  (HPC:Hid (∀ W,Fr [] w W→Calls Tryz.prog 10 #[.pointer (some ⟨x,0,none⟩)] W fun e w'=>e=.returned (.int .i64 r1)∧bP A1 f1 W w')) :
  Calls Tryz.prog 9 #[.pointer (some ⟨g,0,none⟩),ey 10 a b c s] w fun e w'=>e=.returned (.bool true)∧∃ W,Fr [] w W∧bP A1 f1 W w':=by
 have c0:w.cell? ⟨g,0,none⟩=some (.pointer (some ⟨x,0,none⟩)):=by rw[cell_of_row _ _ _ _ _ _ hb];rfl
 have c1:w.cell? ⟨g,1,none⟩=some (.pointer (some ⟨y,0,none⟩)):=by rw[cell_of_row _ _ _ _ _ _ hb];rfl
 have hgl:=lt_of_block hb
 have hgz:g≠w.heap.size:=by omega
 have hyl:y<w.heap.size:=World.block_lt_of_cell? w _ hy
 have q1:((r1:Int)==(r1:Int))=true:=by simp
 go_enter Tryz.func9,Tryz.ntmps9
 go_wp2_with fail
 go_at_call 10
 refine (HPC.out _ (aB w _)).mono ?_
 rintro e w1 ⟨rfl,ht⟩
 have HT:=af ht
 obtain⟨_,_,_,_,hfr⟩:=ht
 have c1':=bF hfr (b:=g) (i:=1) (v:=.pointer (some ⟨y,0,none⟩)) ((World.cell?_alloc_lt _ _ _ hgl).trans c1) hg1
 have y3':=bF hfr (b:=y) (i:=3) (v:=.slice ak r1 ck) ((World.cell?_alloc_lt _ _ _ hyl).trans hy) hy1
 clear hfr c1 hy
 go_wp2_with fail
 go_ret
 exact⟨rfl,_,aB w _,HT.out⟩
theorem C6 (g:Nat)(k a b c:Int)(s:ByteArray)(w:World)(hk:12≤k):
  Calls Tryz.prog 9 #[.pointer (some ⟨g,0,none⟩),ey k a b c s] w fun e w'=>e=.returned (.bool true)∧Fr [] w w':=by
 have h7:(k==7)=false:=by simp;omega
 have h8:(k==8)=false:=by simp;omega
 have h9:(k==9)=false:=by simp;omega
 have h10:(k==10)=false:=by simp;omega
 have h11:(k==11)=false:=by simp;omega
 go_enter Tryz.func9,Tryz.ntmps9
 go_wp2_with fail
 go_ret
 exact⟨rfl,aB w _⟩
end Go.Proofs.YthlhbjnkohinmabGreat
