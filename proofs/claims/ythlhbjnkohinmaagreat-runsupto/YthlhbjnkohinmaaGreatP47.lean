import Derived.Test.YthlhbjnkohinmaaGreatP46
namespace Go.Proofs.YthlhbjnkohinmaaGreat
set_option maxRecDepth 100000
set_option maxHeartbeats 8000000
open Go.RowKit
theorem C0 (g x y:Nat) (f1 f2:List Nat) (A1 A2:eV) (r1 r2:Int) (a b c:Int) (s:ByteArray) (w:World) (hb:w.heap[g]?=some (.cells #[.pointer (some ⟨x,0,none⟩),.pointer (some ⟨y,0,none⟩)] 44 (0,0))) (hg1:g∉f1) (hg2:g∉f2) (hl1:∀ k∈f1,k<w.heap.size) (hl2:∀ k∈f2,k<w.heap.size)
  (HPC:Hid (∀ W,Fr [] w W→Calls Tryz.prog 19 #[.pointer (some ⟨x,0,none⟩)] W fun e w'=>e=.returned (.tuple #[.int .i64 r1,.int .i64 r2])∧cL A1 f1 W w'))
  (HDC:Hid (∀ W W1 W1',Fr [] w W→cL A1 f1 W W1→Fr [] W1 W1'→Calls Tryz.prog 20 #[.pointer (some ⟨y,0,none⟩)] W1' fun e w'=>(e=.returned (.tuple #[.int .i64 r1,.int .i64 r2])∧cL A2 f2 W1 w')∧Fr f2 W1' w')) :
  Calls Tryz.prog 14 #[.pointer (some ⟨g,0,none⟩),ex 2 a b c s] w fun e w'=>e=.returned (.bool true)∧ro f1 f2 A1 A2 w w':=by
 have c0:w.cell? ⟨g,0,none⟩=some (.pointer (some ⟨x,0,none⟩)):=by rw[cell_of_row _ _ _ _ _ _ hb];rfl
 have c1:w.cell? ⟨g,1,none⟩=some (.pointer (some ⟨y,0,none⟩)):=by rw[cell_of_row _ _ _ _ _ _ hb];rfl
 have hgl:=lt_of_block hb
 have hgz:g≠w.heap.size:=by omega
 have hz1:w.heap.size∉f1:=fun e=>by have:=hl1 _ e;omega
 have hz2:w.heap.size∉f2:=fun e=>by have:=hl2 _ e;omega
 have q1:(r1==r1)=true:=by simp
 have q2:(r2==r2)=true:=by simp
 clear hl1 hl2
 go_enter Tryz.func14,Tryz.ntmps14
 go_wp2_with fail
 go_at_call 19
 refine (HPC.out _ (az w _)).mono ?_
 rintro e w1 ⟨rfl,ht⟩
 have HT:=af ht
 obtain⟨_,_,_,_,hfr⟩:=ht
 have c1':=bC hfr (b:=g) (i:=1) (v:=.pointer (some ⟨y,0,none⟩)) ((World.cell?_alloc_lt _ _ _ hgl).trans c1) hg1
 clear hfr c1
 go_wp2_with fail
 go_at_call 20
 refine (HDC.out _ _ _ (az w _) HT.out (Fr.refl _ _)).mono ?_
 rintro e w2 ⟨⟨rfl,ht2⟩,_⟩
 have HT2:=af ht2
 clear ht2 c1'
 go_wp2_with (go_at_call 18;refine (fR _ _).mono ?_;rintro e w' ⟨rfl,rfl⟩)
 go_ret
 exact⟨rfl,_,_,az w _,HT.out,HT2.out⟩
theorem E6 (g x y:Nat) (f1 f2:List Nat) (A1 A2:eV) (r1:Int) (a b c:Int) (s:ByteArray) (w:World) (hb:w.heap[g]?=some (.cells #[.pointer (some ⟨x,0,none⟩),.pointer (some ⟨y,0,none⟩)] 44 (0,0))) (hg1:g∉f1) (hg2:g∉f2) (hl1:∀ k∈f1,k<w.heap.size) (hl2:∀ k∈f2,k<w.heap.size)
  (HPC:Hid (∀ W,Fr [] w W→Calls Tryz.prog 21 #[.pointer (some ⟨x,0,none⟩),.int .i64 b,.string s] W fun e w'=>e=.returned (.int .i64 r1)∧cL A1 f1 W w'))
  (HDC:Hid (∀ W W1 W1',Fr [] w W→cL A1 f1 W W1→Fr [] W1 W1'→Calls Tryz.prog 22 #[.pointer (some ⟨y,0,none⟩),.int .i64 b,.string s] W1' fun e w'=>(e=.returned (.int .i64 r1)∧cL A2 f2 W1 w')∧Fr f2 W1' w')) :
  Calls Tryz.prog 14 #[.pointer (some ⟨g,0,none⟩),ex 3 a b c s] w fun e w'=>e=.returned (.bool true)∧ro f1 f2 A1 A2 w w':=by
 have c0:w.cell? ⟨g,0,none⟩=some (.pointer (some ⟨x,0,none⟩)):=by rw[cell_of_row _ _ _ _ _ _ hb];rfl
 have c1:w.cell? ⟨g,1,none⟩=some (.pointer (some ⟨y,0,none⟩)):=by rw[cell_of_row _ _ _ _ _ _ hb];rfl
 have hgl:=lt_of_block hb
 have hgz:g≠w.heap.size:=by omega
 have hz1:w.heap.size∉f1:=fun e=>by have:=hl1 _ e;omega
 have hz2:w.heap.size∉f2:=fun e=>by have:=hl2 _ e;omega
 have q1:(r1==r1)=true:=by simp
 clear hl1 hl2
 go_enter Tryz.func14,Tryz.ntmps14
 go_wp2_with fail
 go_region_held3 (fun W=>W.cell? ⟨g,0,none⟩=some (.pointer (some ⟨x,0,none⟩))∧W.cell? ⟨w.heap.size,2,none⟩=some (.int .i64 b)∧W.cell? ⟨w.heap.size,4,none⟩=some (.string s)) (first|go_keep|(exact⟨k0,k2,k4⟩)) (first
   |(go_at_call 21
     refine (HPC.out _ (as (az w _))).mono ?_
     rintro e w1 ⟨rfl,ht⟩
     have HT:=af ht
     obtain⟨_,_,_,_,hfr⟩:=ht
     have k0:=bC hfr (aB (as (az w _)) c0) hg1
     have k1:=bC hfr (aB (as (az w _)) c1) hg1
     have k2:=bC hfr (aB (as (Fr.refl _ _)) (cd (w:=w) (cs:=#[.int .i64 3,.int .i64 a,.int .i64 b,.int .i64 c,.string s]) (t:=30) (j:=2) rfl)) hz1
     have k4:=bC hfr (aB (as (Fr.refl _ _)) (cd (w:=w) (cs:=#[.int .i64 3,.int .i64 a,.int .i64 b,.int .i64 c,.string s]) (t:=30) (j:=4) rfl)) hz1
     clear hfr))
 go_wp2_with fail
 go_region_held3 (fun W=>W.cell? ⟨g,1,none⟩=some (.pointer (some ⟨y,0,none⟩))∧W.cell? ⟨w.heap.size,2,none⟩=some (.int .i64 b)∧W.cell? ⟨w.heap.size,4,none⟩=some (.string s)) (first|go_keep|(exact⟨m1,m2,m4⟩)) (first
   |(go_at_call 22
     refine (HDC.out _ _ _ (as (az w _)) HT.out (as (Fr.refl _ _))).mono ?_
     rintro e w2 ⟨⟨rfl,ht2⟩,hfr⟩
     have HT2:=af ht2
     have m1:=bC hfr (aB (as (Fr.refl _ _)) k1) hg2
     have m2:=bC hfr (aB (as (Fr.refl _ _)) k2) hz2
     have m4:=bC hfr (aB (as (Fr.refl _ _)) k4) hz2
     clear hfr ht2))
 go_wp2_with (go_at_call 18;refine (fR _ _).mono ?_;rintro e w' ⟨rfl,rfl⟩)
 go_ret
 exact⟨rfl,_,_,as (az w _),HT.out,HT2.out⟩
theorem zG (g x y:Nat) (f1 f2:List Nat) (A1 A2:eV) (r1:Int) (a b c:Int) (s:ByteArray) (w:World) (hb:w.heap[g]?=some (.cells #[.pointer (some ⟨x,0,none⟩),.pointer (some ⟨y,0,none⟩)] 44 (0,0))) (hg1:g∉f1) (hg2:g∉f2) (hl1:∀ k∈f1,k<w.heap.size) (hl2:∀ k∈f2,k<w.heap.size)
  (HPC:Hid (∀ W,Fr [] w W→Calls Tryz.prog 23 #[.pointer (some ⟨x,0,none⟩),.int .i64 b,.string s] W fun e w'=>e=.returned (.int .i64 r1)∧cL A1 f1 W w'))
  (HDC:Hid (∀ W W1 W1',Fr [] w W→cL A1 f1 W W1→Fr [] W1 W1'→Calls Tryz.prog 24 #[.pointer (some ⟨y,0,none⟩),.int .i64 b,.string s] W1' fun e w'=>(e=.returned (.int .i64 r1)∧cL A2 f2 W1 w')∧Fr f2 W1' w')) :
  Calls Tryz.prog 14 #[.pointer (some ⟨g,0,none⟩),ex 4 a b c s] w fun e w'=>e=.returned (.bool true)∧ro f1 f2 A1 A2 w w':=by
 have c0:w.cell? ⟨g,0,none⟩=some (.pointer (some ⟨x,0,none⟩)):=by rw[cell_of_row _ _ _ _ _ _ hb];rfl
 have c1:w.cell? ⟨g,1,none⟩=some (.pointer (some ⟨y,0,none⟩)):=by rw[cell_of_row _ _ _ _ _ _ hb];rfl
 have hgl:=lt_of_block hb
 have hgz:g≠w.heap.size:=by omega
 have hz1:w.heap.size∉f1:=fun e=>by have:=hl1 _ e;omega
 have hz2:w.heap.size∉f2:=fun e=>by have:=hl2 _ e;omega
 have q1:(r1==r1)=true:=by simp
 clear hl1 hl2
 go_enter Tryz.func14,Tryz.ntmps14
 go_wp2_with fail
 go_region_held3 (fun W=>W.cell? ⟨g,0,none⟩=some (.pointer (some ⟨x,0,none⟩))∧W.cell? ⟨w.heap.size,2,none⟩=some (.int .i64 b)∧W.cell? ⟨w.heap.size,4,none⟩=some (.string s)) (first|go_keep|(exact⟨k0,k2,k4⟩)) (first
   |(go_at_call 23
     refine (HPC.out _ (as (az w _))).mono ?_
     rintro e w1 ⟨rfl,ht⟩
     have HT:=af ht
     obtain⟨_,_,_,_,hfr⟩:=ht
     have k0:=bC hfr (aB (as (az w _)) c0) hg1
     have k1:=bC hfr (aB (as (az w _)) c1) hg1
     have k2:=bC hfr (aB (as (Fr.refl _ _)) (cd (w:=w) (cs:=#[.int .i64 4,.int .i64 a,.int .i64 b,.int .i64 c,.string s]) (t:=30) (j:=2) rfl)) hz1
     have k4:=bC hfr (aB (as (Fr.refl _ _)) (cd (w:=w) (cs:=#[.int .i64 4,.int .i64 a,.int .i64 b,.int .i64 c,.string s]) (t:=30) (j:=4) rfl)) hz1
     clear hfr))
 go_wp2_with fail
 go_region_held3 (fun W=>W.cell? ⟨g,1,none⟩=some (.pointer (some ⟨y,0,none⟩))∧W.cell? ⟨w.heap.size,2,none⟩=some (.int .i64 b)∧W.cell? ⟨w.heap.size,4,none⟩=some (.string s)) (first|go_keep|(exact⟨m1,m2,m4⟩)) (first
   |(go_at_call 24
     refine (HDC.out _ _ _ (as (az w _)) HT.out (as (Fr.refl _ _))).mono ?_
     rintro e w2 ⟨⟨rfl,ht2⟩,hfr⟩
     have HT2:=af ht2
     have m1:=bC hfr (aB (as (Fr.refl _ _)) k1) hg2
     have m2:=bC hfr (aB (as (Fr.refl _ _)) k2) hz2
     have m4:=bC hfr (aB (as (Fr.refl _ _)) k4) hz2
     clear hfr ht2))
 go_wp2_with (go_at_call 18;refine (fR _ _).mono ?_;rintro e w' ⟨rfl,rfl⟩)
 go_ret
 exact⟨rfl,_,_,as (az w _),HT.out,HT2.out⟩
theorem Dy (g x y:Nat) (f1 f2:List Nat) (A1 A2:eV) (r1:ByteArray) (r2:Int) (a b c:Int) (s:ByteArray) (w:World) (hb:w.heap[g]?=some (.cells #[.pointer (some ⟨x,0,none⟩),.pointer (some ⟨y,0,none⟩)] 44 (0,0))) (hg1:g∉f1) (hg2:g∉f2) (hl1:∀ k∈f1,k<w.heap.size) (hl2:∀ k∈f2,k<w.heap.size)
  (HPC:Hid (∀ W,Fr [] w W→Calls Tryz.prog 25 #[.pointer (some ⟨x,0,none⟩),.int .i64 b] W fun e w'=>e=.returned (.tuple #[.string r1,.int .i64 r2])∧cL A1 f1 W w'))
  (HDC:Hid (∀ W W1 W1',Fr [] w W→cL A1 f1 W W1→Fr [] W1 W1'→Calls Tryz.prog 26 #[.pointer (some ⟨y,0,none⟩),.int .i64 b] W1' fun e w'=>(e=.returned (.tuple #[.string r1,.int .i64 r2])∧cL A2 f2 W1 w')∧Fr f2 W1' w')) :
  Calls Tryz.prog 14 #[.pointer (some ⟨g,0,none⟩),ex 5 a b c s] w fun e w'=>e=.returned (.bool true)∧ro f1 f2 A1 A2 w w':=by
 have c0:w.cell? ⟨g,0,none⟩=some (.pointer (some ⟨x,0,none⟩)):=by rw[cell_of_row _ _ _ _ _ _ hb];rfl
 have c1:w.cell? ⟨g,1,none⟩=some (.pointer (some ⟨y,0,none⟩)):=by rw[cell_of_row _ _ _ _ _ _ hb];rfl
 have hgl:=lt_of_block hb
 have hgz:g≠w.heap.size:=by omega
 have hz1:w.heap.size∉f1:=fun e=>by have:=hl1 _ e;omega
 have hz2:w.heap.size∉f2:=fun e=>by have:=hl2 _ e;omega
 have q1:(r1.toList==r1.toList)=true:=by simp
 have q2:(r2==r2)=true:=by simp
 clear hl1 hl2
 go_enter Tryz.func14,Tryz.ntmps14
 go_wp2_with fail
 go_region_held3 (fun W=>W.cell? ⟨g,0,none⟩=some (.pointer (some ⟨x,0,none⟩))∧W.cell? ⟨w.heap.size,2,none⟩=some (.int .i64 b)) (first|go_keep|(exact⟨k0,k2⟩)) (first
   |(go_at_call 25
     refine (HPC.out _ (as (az w _))).mono ?_
     rintro e w1 ⟨rfl,ht⟩
     have HT:=af ht
     obtain⟨_,_,_,_,hfr⟩:=ht
     have k0:=bC hfr (aB (as (az w _)) c0) hg1
     have k1:=bC hfr (aB (as (az w _)) c1) hg1
     have k2:=bC hfr (aB (as (Fr.refl _ _)) (cd (w:=w) (cs:=#[.int .i64 5,.int .i64 a,.int .i64 b,.int .i64 c,.string s]) (t:=30) (j:=2) rfl)) hz1
     clear hfr))
 go_wp2_with fail
 go_region_held3 (fun W=>W.cell? ⟨g,1,none⟩=some (.pointer (some ⟨y,0,none⟩))∧W.cell? ⟨w.heap.size,2,none⟩=some (.int .i64 b)) (first|go_keep|(exact⟨m1,m2⟩)) (first
   |(go_at_call 26
     refine (HDC.out _ _ _ (as (az w _)) HT.out (as (Fr.refl _ _))).mono ?_
     rintro e w2 ⟨⟨rfl,ht2⟩,hfr⟩
     have HT2:=af ht2
     have m1:=bC hfr (aB (as (Fr.refl _ _)) k1) hg2
     have m2:=bC hfr (aB (as (Fr.refl _ _)) k2) hz2
     clear hfr ht2))
 go_wp2_with (go_at_call 18;refine (fR _ _).mono ?_;rintro e w' ⟨rfl,rfl⟩)
 go_ret
 exact⟨rfl,_,_,as (az w _),HT.out,HT2.out⟩
theorem zj (g x y:Nat) (f1 f2:List Nat) (A1 A2:eV) (r1:Int) (a b c:Int) (s:ByteArray) (w:World) (hb:w.heap[g]?=some (.cells #[.pointer (some ⟨x,0,none⟩),.pointer (some ⟨y,0,none⟩)] 44 (0,0))) (hg1:g∉f1) (hg2:g∉f2) (hl1:∀ k∈f1,k<w.heap.size) (hl2:∀ k∈f2,k<w.heap.size)
  (HPC:Hid (∀ W,Fr [] w W→Calls Tryz.prog 27 #[.pointer (some ⟨x,0,none⟩),.int .i64 b] W fun e w'=>e=.returned (.int .i64 r1)∧cL A1 f1 W w'))
  (HDC:Hid (∀ W W1 W1',Fr [] w W→cL A1 f1 W W1→Fr [] W1 W1'→Calls Tryz.prog 28 #[.pointer (some ⟨y,0,none⟩),.int .i64 b] W1' fun e w'=>(e=.returned (.int .i64 r1)∧cL A2 f2 W1 w')∧Fr f2 W1' w')) :
  Calls Tryz.prog 14 #[.pointer (some ⟨g,0,none⟩),ex 6 a b c s] w fun e w'=>e=.returned (.bool true)∧ro f1 f2 A1 A2 w w':=by
 have c0:w.cell? ⟨g,0,none⟩=some (.pointer (some ⟨x,0,none⟩)):=by rw[cell_of_row _ _ _ _ _ _ hb];rfl
 have c1:w.cell? ⟨g,1,none⟩=some (.pointer (some ⟨y,0,none⟩)):=by rw[cell_of_row _ _ _ _ _ _ hb];rfl
 have hgl:=lt_of_block hb
 have hgz:g≠w.heap.size:=by omega
 have hz1:w.heap.size∉f1:=fun e=>by have:=hl1 _ e;omega
 have hz2:w.heap.size∉f2:=fun e=>by have:=hl2 _ e;omega
 have q1:(r1==r1)=true:=by simp
 clear hl1 hl2
 go_enter Tryz.func14,Tryz.ntmps14
 go_wp2_with fail
 go_region_held3 (fun W=>W.cell? ⟨g,0,none⟩=some (.pointer (some ⟨x,0,none⟩))∧W.cell? ⟨w.heap.size,2,none⟩=some (.int .i64 b)) (first|go_keep|(exact⟨k0,k2⟩)) (first
   |(go_at_call 27
     refine (HPC.out _ (as (az w _))).mono ?_
     rintro e w1 ⟨rfl,ht⟩
     have HT:=af ht
     obtain⟨_,_,_,_,hfr⟩:=ht
     have k0:=bC hfr (aB (as (az w _)) c0) hg1
     have k1:=bC hfr (aB (as (az w _)) c1) hg1
     have k2:=bC hfr (aB (as (Fr.refl _ _)) (cd (w:=w) (cs:=#[.int .i64 6,.int .i64 a,.int .i64 b,.int .i64 c,.string s]) (t:=30) (j:=2) rfl)) hz1
     clear hfr))
 go_wp2_with fail
 go_region_held3 (fun W=>W.cell? ⟨g,1,none⟩=some (.pointer (some ⟨y,0,none⟩))∧W.cell? ⟨w.heap.size,2,none⟩=some (.int .i64 b)) (first|go_keep|(exact⟨m1,m2⟩)) (first
   |(go_at_call 28
     refine (HDC.out _ _ _ (as (az w _)) HT.out (as (Fr.refl _ _))).mono ?_
     rintro e w2 ⟨⟨rfl,ht2⟩,hfr⟩
     have HT2:=af ht2
     have m1:=bC hfr (aB (as (Fr.refl _ _)) k1) hg2
     have m2:=bC hfr (aB (as (Fr.refl _ _)) k2) hz2
     clear hfr ht2))
 go_wp2_with (go_at_call 18;refine (fR _ _).mono ?_;rintro e w' ⟨rfl,rfl⟩)
 go_ret
 exact⟨rfl,_,_,as (az w _),HT.out,HT2.out⟩
theorem xJ (g x y:Nat) (f1 f2:List Nat) (A1 A2:eV) (r1 r2:Int) (a b c:Int) (s:ByteArray) (w:World) (hb:w.heap[g]?=some (.cells #[.pointer (some ⟨x,0,none⟩),.pointer (some ⟨y,0,none⟩)] 44 (0,0))) (hg1:g∉f1) (hg2:g∉f2) (hl1:∀ k∈f1,k<w.heap.size) (hl2:∀ k∈f2,k<w.heap.size)
  (HPC:Hid (∀ W,Fr [] w W→Calls Tryz.prog 29 #[.pointer (some ⟨x,0,none⟩),.int .i64 b] W fun e w'=>e=.returned (.tuple #[.int .i64 r1,.int .i64 r2])∧cL A1 f1 W w'))
  (HDC:Hid (∀ W W1 W1',Fr [] w W→cL A1 f1 W W1→Fr [] W1 W1'→Calls Tryz.prog 30 #[.pointer (some ⟨y,0,none⟩),.int .i64 b] W1' fun e w'=>(e=.returned (.tuple #[.int .i64 r1,.int .i64 r2])∧cL A2 f2 W1 w')∧Fr f2 W1' w')) :
  Calls Tryz.prog 15 #[.pointer (some ⟨g,0,none⟩),ex 7 a b c s] w fun e w'=>e=.returned (.bool true)∧ro f1 f2 A1 A2 w w':=by
 have c0:w.cell? ⟨g,0,none⟩=some (.pointer (some ⟨x,0,none⟩)):=by rw[cell_of_row _ _ _ _ _ _ hb];rfl
 have c1:w.cell? ⟨g,1,none⟩=some (.pointer (some ⟨y,0,none⟩)):=by rw[cell_of_row _ _ _ _ _ _ hb];rfl
 have hgl:=lt_of_block hb
 have hgz:g≠w.heap.size:=by omega
 have hz1:w.heap.size∉f1:=fun e=>by have:=hl1 _ e;omega
 have hz2:w.heap.size∉f2:=fun e=>by have:=hl2 _ e;omega
 have q1:(r1==r1)=true:=by simp
 have q2:(r2==r2)=true:=by simp
 clear hl1 hl2
 go_enter Tryz.func15,Tryz.ntmps15
 go_wp2_with fail
 go_region_held3 (fun W=>W.cell? ⟨g,0,none⟩=some (.pointer (some ⟨x,0,none⟩))∧W.cell? ⟨w.heap.size,2,none⟩=some (.int .i64 b)) (first|go_keep|(exact⟨k0,k2⟩)) (first
   |(go_at_call 29
     refine (HPC.out _ (as (az w _))).mono ?_
     rintro e w1 ⟨rfl,ht⟩
     have HT:=af ht
     obtain⟨_,_,_,_,hfr⟩:=ht
     have k0:=bC hfr (aB (as (az w _)) c0) hg1
     have k1:=bC hfr (aB (as (az w _)) c1) hg1
     have k2:=bC hfr (aB (as (Fr.refl _ _)) (cd (w:=w) (cs:=#[.int .i64 7,.int .i64 a,.int .i64 b,.int .i64 c,.string s]) (t:=30) (j:=2) rfl)) hz1
     clear hfr))
 go_wp2_with fail
 go_region_held3 (fun W=>W.cell? ⟨g,1,none⟩=some (.pointer (some ⟨y,0,none⟩))∧W.cell? ⟨w.heap.size,2,none⟩=some (.int .i64 b)) (first|go_keep|(exact⟨m1,m2⟩)) (first
   |(go_at_call 30
     refine (HDC.out _ _ _ (as (az w _)) HT.out (as (Fr.refl _ _))).mono ?_
     rintro e w2 ⟨⟨rfl,ht2⟩,hfr⟩
     have HT2:=af ht2
     have m1:=bC hfr (aB (as (Fr.refl _ _)) k1) hg2
     have m2:=bC hfr (aB (as (Fr.refl _ _)) k2) hz2
     clear hfr ht2))
 go_wp2_with (go_at_call 18;refine (fR _ _).mono ?_;rintro e w' ⟨rfl,rfl⟩)
 go_ret
 exact⟨rfl,_,_,as (az w _),HT.out,HT2.out⟩
theorem vh (g x y:Nat) (f1 f2:List Nat) (A1 A2:eV) (r1:ByteArray) (r2:Int) (a b c:Int) (s:ByteArray) (w:World) (hb:w.heap[g]?=some (.cells #[.pointer (some ⟨x,0,none⟩),.pointer (some ⟨y,0,none⟩)] 44 (0,0))) (hg1:g∉f1) (hg2:g∉f2) (hl1:∀ k∈f1,k<w.heap.size) (hl2:∀ k∈f2,k<w.heap.size)
  (HPC:Hid (∀ W,Fr [] w W→Calls Tryz.prog 31 #[.pointer (some ⟨x,0,none⟩),.int .i64 b] W fun e w'=>e=.returned (.tuple #[.string r1,.int .i64 r2])∧cL A1 f1 W w'))
  (HDC:Hid (∀ W W1 W1',Fr [] w W→cL A1 f1 W W1→Fr [] W1 W1'→Calls Tryz.prog 32 #[.pointer (some ⟨y,0,none⟩),.int .i64 b] W1' fun e w'=>(e=.returned (.tuple #[.string r1,.int .i64 r2])∧cL A2 f2 W1 w')∧Fr f2 W1' w')) :
  Calls Tryz.prog 15 #[.pointer (some ⟨g,0,none⟩),ex 8 a b c s] w fun e w'=>e=.returned (.bool true)∧ro f1 f2 A1 A2 w w':=by
 have c0:w.cell? ⟨g,0,none⟩=some (.pointer (some ⟨x,0,none⟩)):=by rw[cell_of_row _ _ _ _ _ _ hb];rfl
 have c1:w.cell? ⟨g,1,none⟩=some (.pointer (some ⟨y,0,none⟩)):=by rw[cell_of_row _ _ _ _ _ _ hb];rfl
 have hgl:=lt_of_block hb
 have hgz:g≠w.heap.size:=by omega
 have hz1:w.heap.size∉f1:=fun e=>by have:=hl1 _ e;omega
 have hz2:w.heap.size∉f2:=fun e=>by have:=hl2 _ e;omega
 have q1:(r1.toList==r1.toList)=true:=by simp
 have q2:(r2==r2)=true:=by simp
 clear hl1 hl2
 go_enter Tryz.func15,Tryz.ntmps15
 go_wp2_with fail
 go_region_held3 (fun W=>W.cell? ⟨g,0,none⟩=some (.pointer (some ⟨x,0,none⟩))∧W.cell? ⟨w.heap.size,2,none⟩=some (.int .i64 b)) (first|go_keep|(exact⟨k0,k2⟩)) (first
   |(go_at_call 31
     refine (HPC.out _ (as (az w _))).mono ?_
     rintro e w1 ⟨rfl,ht⟩
     have HT:=af ht
     obtain⟨_,_,_,_,hfr⟩:=ht
     have k0:=bC hfr (aB (as (az w _)) c0) hg1
     have k1:=bC hfr (aB (as (az w _)) c1) hg1
     have k2:=bC hfr (aB (as (Fr.refl _ _)) (cd (w:=w) (cs:=#[.int .i64 8,.int .i64 a,.int .i64 b,.int .i64 c,.string s]) (t:=30) (j:=2) rfl)) hz1
     clear hfr))
 go_wp2_with fail
 go_region_held3 (fun W=>W.cell? ⟨g,1,none⟩=some (.pointer (some ⟨y,0,none⟩))∧W.cell? ⟨w.heap.size,2,none⟩=some (.int .i64 b)) (first|go_keep|(exact⟨m1,m2⟩)) (first
   |(go_at_call 32
     refine (HDC.out _ _ _ (as (az w _)) HT.out (as (Fr.refl _ _))).mono ?_
     rintro e w2 ⟨⟨rfl,ht2⟩,hfr⟩
     have HT2:=af ht2
     have m1:=bC hfr (aB (as (Fr.refl _ _)) k1) hg2
     have m2:=bC hfr (aB (as (Fr.refl _ _)) k2) hz2
     clear hfr ht2))
 go_wp2_with (go_at_call 18;refine (fR _ _).mono ?_;rintro e w' ⟨rfl,rfl⟩)
 go_ret
 exact⟨rfl,_,_,as (az w _),HT.out,HT2.out⟩
theorem En (g x y:Nat) (f1 f2:List Nat) (A1 A2:eV) (r1 r2 r3:Int) (a b c:Int) (s:ByteArray) (w:World) (hb:w.heap[g]?=some (.cells #[.pointer (some ⟨x,0,none⟩),.pointer (some ⟨y,0,none⟩)] 44 (0,0))) (hg1:g∉f1) (hg2:g∉f2) (hl1:∀ k∈f1,k<w.heap.size) (hl2:∀ k∈f2,k<w.heap.size)
  (HPC:Hid (∀ W,Fr [] w W→Calls Tryz.prog 33 #[.pointer (some ⟨x,0,none⟩),.int .i64 b,.int .i64 c] W fun e w'=>e=.returned (.tuple #[.int .i64 r1,.int .i64 r2,.int .i64 r3])∧cL A1 f1 W w'))
  (HDC:Hid (∀ W W1 W1',Fr [] w W→cL A1 f1 W W1→Fr [] W1 W1'→Calls Tryz.prog 34 #[.pointer (some ⟨y,0,none⟩),.int .i64 b,.int .i64 c] W1' fun e w'=>(e=.returned (.tuple #[.int .i64 r1,.int .i64 r2,.int .i64 r3])∧cL A2 f2 W1 w')∧Fr f2 W1' w')) :
  Calls Tryz.prog 15 #[.pointer (some ⟨g,0,none⟩),ex 9 a b c s] w fun e w'=>e=.returned (.bool true)∧ro f1 f2 A1 A2 w w':=by
 have c0:w.cell? ⟨g,0,none⟩=some (.pointer (some ⟨x,0,none⟩)):=by rw[cell_of_row _ _ _ _ _ _ hb];rfl
 have c1:w.cell? ⟨g,1,none⟩=some (.pointer (some ⟨y,0,none⟩)):=by rw[cell_of_row _ _ _ _ _ _ hb];rfl
 have hgl:=lt_of_block hb
 have hgz:g≠w.heap.size:=by omega
 have hz1:w.heap.size∉f1:=fun e=>by have:=hl1 _ e;omega
 have hz2:w.heap.size∉f2:=fun e=>by have:=hl2 _ e;omega
 have q1:(r1==r1)=true:=by simp
 have q2:(r2==r2)=true:=by simp
 have q3:(r3==r3)=true:=by simp
 clear hl1 hl2
 go_enter Tryz.func15,Tryz.ntmps15
 go_wp2_with fail
 go_region_held3 (fun W=>W.cell? ⟨g,0,none⟩=some (.pointer (some ⟨x,0,none⟩))∧W.cell? ⟨w.heap.size,2,none⟩=some (.int .i64 b)∧W.cell? ⟨w.heap.size,3,none⟩=some (.int .i64 c)) (first|go_keep|(exact⟨k0,k2,k3⟩)) (first
   |(go_at_call 33
     refine (HPC.out _ (as (az w _))).mono ?_
     rintro e w1 ⟨rfl,ht⟩
     have HT:=af ht
     obtain⟨_,_,_,_,hfr⟩:=ht
     have k0:=bC hfr (aB (as (az w _)) c0) hg1
     have k1:=bC hfr (aB (as (az w _)) c1) hg1
     have k2:=bC hfr (aB (as (Fr.refl _ _)) (cd (w:=w) (cs:=#[.int .i64 9,.int .i64 a,.int .i64 b,.int .i64 c,.string s]) (t:=30) (j:=2) rfl)) hz1
     have k3:=bC hfr (aB (as (Fr.refl _ _)) (cd (w:=w) (cs:=#[.int .i64 9,.int .i64 a,.int .i64 b,.int .i64 c,.string s]) (t:=30) (j:=3) rfl)) hz1
     clear hfr))
 go_wp2_with fail
 go_region_held3 (fun W=>W.cell? ⟨g,1,none⟩=some (.pointer (some ⟨y,0,none⟩))∧W.cell? ⟨w.heap.size,2,none⟩=some (.int .i64 b)∧W.cell? ⟨w.heap.size,3,none⟩=some (.int .i64 c)) (first|go_keep|(exact⟨m1,m2,m3⟩)) (first
   |(go_at_call 34
     refine (HDC.out _ _ _ (as (az w _)) HT.out (as (Fr.refl _ _))).mono ?_
     rintro e w2 ⟨⟨rfl,ht2⟩,hfr⟩
     have HT2:=af ht2
     have m1:=bC hfr (aB (as (Fr.refl _ _)) k1) hg2
     have m2:=bC hfr (aB (as (Fr.refl _ _)) k2) hz2
     have m3:=bC hfr (aB (as (Fr.refl _ _)) k3) hz2
     clear hfr ht2))
 go_wp2_with (go_at_call 18;refine (fR _ _).mono ?_;rintro e w' ⟨rfl,rfl⟩)
 go_ret
 exact⟨rfl,_,_,as (az w _),HT.out,HT2.out⟩
theorem zS (g x y:Nat) (f1 f2:List Nat) (A1 A2:eV) (r1:Int) (a b c:Int) (s:ByteArray) (w:World) (hb:w.heap[g]?=some (.cells #[.pointer (some ⟨x,0,none⟩),.pointer (some ⟨y,0,none⟩)] 44 (0,0))) (hg1:g∉f1) (hg2:g∉f2) (hl1:∀ k∈f1,k<w.heap.size) (hl2:∀ k∈f2,k<w.heap.size)
  (HPC:Hid (∀ W,Fr [] w W→Calls Tryz.prog 36 #[.pointer (some ⟨x,0,none⟩)] W fun e w'=>e=.returned (.int .i64 r1)∧cL A1 f1 W w'))
  (HDC:Hid (∀ W W1 W1',Fr [] w W→cL A1 f1 W W1→Fr [] W1 W1'→Calls Tryz.prog 37 #[.pointer (some ⟨y,0,none⟩)] W1' fun e w'=>(e=.returned (.int .i64 r1)∧cL A2 f2 W1 w')∧Fr f2 W1' w')) :
  Calls Tryz.prog 15 #[.pointer (some ⟨g,0,none⟩),ex 11 a b c s] w fun e w'=>e=.returned (.bool true)∧ro f1 f2 A1 A2 w w':=by
 have c0:w.cell? ⟨g,0,none⟩=some (.pointer (some ⟨x,0,none⟩)):=by rw[cell_of_row _ _ _ _ _ _ hb];rfl
 have c1:w.cell? ⟨g,1,none⟩=some (.pointer (some ⟨y,0,none⟩)):=by rw[cell_of_row _ _ _ _ _ _ hb];rfl
 have hgl:=lt_of_block hb
 have hgz:g≠w.heap.size:=by omega
 have hz1:w.heap.size∉f1:=fun e=>by have:=hl1 _ e;omega
 have hz2:w.heap.size∉f2:=fun e=>by have:=hl2 _ e;omega
 have q1:(r1==r1)=true:=by simp
 clear hl1 hl2
 go_enter Tryz.func15,Tryz.ntmps15
 go_wp2_with fail
 go_at_call 36
 refine (HPC.out _ (az w _)).mono ?_
 rintro e w1 ⟨rfl,ht⟩
 have HT:=af ht
 obtain⟨_,_,_,_,hfr⟩:=ht
 have c1':=bC hfr (b:=g) (i:=1) (v:=.pointer (some ⟨y,0,none⟩)) ((World.cell?_alloc_lt _ _ _ hgl).trans c1) hg1
 clear hfr c1
 go_wp2_with fail
 go_at_call 37
 refine (HDC.out _ _ _ (az w _) HT.out (Fr.refl _ _)).mono ?_
 rintro e w2 ⟨⟨rfl,ht2⟩,_⟩
 have HT2:=af ht2
 clear ht2 c1'
 go_wp2_with (go_at_call 18;refine (fR _ _).mono ?_;rintro e w' ⟨rfl,rfl⟩)
 go_ret
 exact⟨rfl,_,_,az w _,HT.out,HT2.out⟩
theorem Ds (g x y:Nat) (f1:List Nat) (A1:eV) (r1:Nat) (ak:Option Addr) (ck:Nat) (a b c:Int) (s:ByteArray) (w:World) (hb:w.heap[g]?=some (.cells #[.pointer (some ⟨x,0,none⟩),.pointer (some ⟨y,0,none⟩)] 44 (0,0))) (hg1:g∉f1) (hy:w.cell? ⟨y,3,none⟩=some (.slice ak r1 ck)) (hy1:y∉f1)
  (HPC:Hid (∀ W,Fr [] w W→Calls Tryz.prog 35 #[.pointer (some ⟨x,0,none⟩)] W fun e w'=>e=.returned (.int .i64 r1)∧cL A1 f1 W w')) :
  Calls Tryz.prog 15 #[.pointer (some ⟨g,0,none⟩),ex 10 a b c s] w fun e w'=>e=.returned (.bool true)∧∃ W,Fr [] w W∧cL A1 f1 W w':=by
 have c0:w.cell? ⟨g,0,none⟩=some (.pointer (some ⟨x,0,none⟩)):=by rw[cell_of_row _ _ _ _ _ _ hb];rfl
 have c1:w.cell? ⟨g,1,none⟩=some (.pointer (some ⟨y,0,none⟩)):=by rw[cell_of_row _ _ _ _ _ _ hb];rfl
 have hgl:=lt_of_block hb
 have hgz:g≠w.heap.size:=by omega
 have hyl:y<w.heap.size:=World.block_lt_of_cell? w _ hy
 have q1:((r1:Int)==(r1:Int))=true:=by simp
 go_enter Tryz.func15,Tryz.ntmps15
 go_wp2_with fail
 go_at_call 35
 refine (HPC.out _ (az w _)).mono ?_
 rintro e w1 ⟨rfl,ht⟩
 have HT:=af ht
 obtain⟨_,_,_,_,hfr⟩:=ht
 have c1':=bC hfr (b:=g) (i:=1) (v:=.pointer (some ⟨y,0,none⟩)) ((World.cell?_alloc_lt _ _ _ hgl).trans c1) hg1
 have y3':=bC hfr (b:=y) (i:=3) (v:=.slice ak r1 ck) ((World.cell?_alloc_lt _ _ _ hyl).trans hy) hy1
 clear hfr c1 hy
 go_wp2_with fail
 go_ret
 exact⟨rfl,_,az w _,HT.out⟩
theorem Dh (g:Nat) (k a b c:Int) (s:ByteArray) (w:World) (hk:12≤k) :
  Calls Tryz.prog 15 #[.pointer (some ⟨g,0,none⟩),ex k a b c s] w fun e w'=>e=.returned (.bool true)∧Fr [] w w':=by
 have h7:(k==7)=false:=by simp;omega
 have h8:(k==8)=false:=by simp;omega
 have h9:(k==9)=false:=by simp;omega
 have h10:(k==10)=false:=by simp;omega
 have h11:(k==11)=false:=by simp;omega
 go_enter Tryz.func15,Tryz.ntmps15
 go_wp2_with fail
 go_ret
 exact⟨rfl,az w _⟩
end Go.Proofs.YthlhbjnkohinmaaGreat
