import Derived.WalkKit
import Derived.Test.YthlhbjnkohinmaaGreatProg
import Derived.WalkSpells
import Derived.WalkLawsBesides
import Derived.Deep.QuietTactic
import Derived.BigQuiet
namespace Go.Proofs.YthlhbjnkohinmaaGreat
set_option maxRecDepth 100000
set_option maxHeartbeats 8000000
def bN (c:Int):Bool:=decide (48≤c∧c≤57)
def ex (c:Int):Bool:=decide (119≤c∧c≤122)
def aR (c:Int):Bool:=decide (97≤c∧c≤102)
def be (c:Int):Bool:=bN c||ex c
def c9 (c:Int):Bool:=be c||c==95
def ff (c:Int):Bool:=c==94||c==126
def gE (c:Int):Bool:=c==60||c==61||c==35
def dy (c:Int):Int:=if bN c then 1 else if ex c then 2 else 0
def dE (c:Int):Int:=if bN c then c - 48 else if ex c then c - 119 else 0
def hJ (c:Int):Int:=if c=94 then 1 else if c=126 then -1 else 0
def b8 (q c:Int):Int:=
 if q=0 then (if bN c then 1 else -1)
 else if q=1 then (if c=58 then 2 else -1)
 else if q=2 then (if aR c then 3 else if c=33 then 5 else if be c then 6 else -1)
 else if q=3 then (if c9 c then 4 else -1)
 else if q=4 then (if c9 c then 8 else -1)
 else if q=5 then (if aR c then 3 else -1)
 else if q=6 then (if c=60∨c=61∨c=35 then 7 else -1)
 else if q=7 then (if be c then 8 else -1)
 else if q=8 then (if c=44 then 2 else if c=62 then 9 else -1)
 else -1
def dO (q c:Int):Int:=
 if q=9 then (if c=43 then 10 else if c=45 then 14 else if c=46 then 17 else -1)
 else if q=10 then (if aR c then 11 else -1)
 else if q=11 then (if be c then 12 else -1)
 else if q=12 then (if ff c then 13 else if be c then 16 else -1)
 else if q=13 then (if be c then 16 else -1)
 else if q=14 then (if aR c then 15 else -1)
 else if q=15 then (if be c then 16 else -1)
 else if q=16 then (if ff c then 17 else if c=44 then 9 else if c=59 then 0 else -1)
 else if q=17 then (if c=44 then 9 else if c=59 then 0 else -1)
 else -1
def a9 (q c:Int):Int:=if q<9 then b8 q c else dO q c
theorem kf {k:IntKind}{a b:Int}(h:a=b):Ending.returned (.int k a)=.returned (.int k b):=by rw[h]
theorem c7 {a b:Bool}(h:a=b):Ending.returned (.bool a)=.returned (.bool b):=by rw[h]
open Go.RowKit
def Rd (w:World)(b:Nat)(s:ByteArray)(i:Nat):Prop:=w.heap[b]?=some (.cells #[.string s,.int .i64 (i:Int)] 147 (0,0))
theorem Rd.c0 {w:World}{b:Nat}{s:ByteArray}{i:Nat}(h:Rd w b s i):w.cell? ⟨b,0,none⟩=some (.string s):=by unfold Rd at h;simp[World.cell?,h]
theorem Rd.c1 {w:World}{b:Nat}{s:ByteArray}{i:Nat}(h:Rd w b s i):w.cell? ⟨b,1,none⟩=some (.int .i64 (i:Int)):=by unfold Rd at h;simp[World.cell?,h]
theorem Rd.fz {w:World}{b:Nat}{s:ByteArray}{i:Nat}(h:Rd w b s i):w.frozen? ⟨b,1,none⟩=false:=by unfold Rd at h;simp[World.frozen?,h]
theorem Rd.lt {w:World}{b:Nat}{s:ByteArray}{i:Nat}(h:Rd w b s i):b<w.heap.size:=lt_of_block h
theorem Rd.drewN {w:World}{b:Nat}{s:ByteArray}{i:Nat}(h:Rd w b s i)(n:Nat):Rd (w.drewN n) b s i:=h
theorem Rd.alloc {w:World}{b:Nat}{s:ByteArray}{i:Nat}(h:Rd w b s i)(o:Obj):Rd (w.alloc o) b s i:=(Below.heap_alloc w o b h.lt).trans h
theorem Rd.step {w:World}{b:Nat}{s:ByteArray}{i:Nat}(h:Rd w b s i):Rd (w.setCell ⟨b,1,none⟩ (.int .i64 ((i:Int)+1))) b s (i+1):=by
 unfold Rd at h ⊢
 rw[Go.heap_setCell_same w b 1 _ _ _ h]
 simp
theorem Rd.other {w:World}{b:Nat}{s:ByteArray}{i:Nat}(h:Rd w b s i){a:Addr}(ha:b≠a.block)(u:Value):Rd (w.setCell a u) b s i:=(Below.heap_setCell w a u b ha).trans h
theorem ag (w:World)(r:Option Nat):w.grownBy w r:=⟨rfl,rfl,rfl,Nat.le_refl _,fun _ _ _=>rfl⟩
theorem al {w w':World}{r:Option Nat}(h:w.grownBy w' r)(n:Nat):w.grownBy (w'.drewN n) r:=⟨h.os,h.tape,h.output,h.size,h.block⟩
theorem cF {w w':World}{r:Option Nat}{n:Nat}(h:(w.drewN n).grownBy w' r):w.grownBy w' r:=⟨h.os,h.tape,h.output,h.size,h.block⟩
theorem ae {a b c:World}{r:Option Nat}(h:a.grownBy b r)(k:b.grownBy c r):a.grownBy c r:=
 ⟨k.os.trans h.os,k.tape.trans h.tape,k.output.trans h.output,Nat.le_trans h.size k.size,fun i hi hr=>(k.block i (Nat.lt_of_lt_of_le hi h.size) hr).trans (h.block i hi hr)⟩
theorem ab {w w':World}{r:Option Nat}(h:w.grownBy w' r)(o:Obj):w.grownBy (w'.alloc o) r:=ae h (World.grownBy_alloc w' o r)
theorem aj {w w':World}{r:Option Nat}(h:w.grownBy w' r){a:Addr}(ha:r=some a.block∨w.heap.size≤a.block)(u:Value):w.grownBy (w'.setCell a u) r:=by
 have hb:=Below.setCell (Below.refl 0 w') (p:=a) (Nat.zero_le _) u
 exact⟨hb.os.trans h.os,hb.tape.trans h.tape,hb.output.trans h.output,Nat.le_trans h.size hb.size,fun i hi hr=>by
  rw[Below.heap_setCell w' a u i (by rcases ha with e|e;·intro c;subst c;exact hr e.symm
                                     ·omega)]
  exact h.block i hi hr⟩
def bt (s:ByteArray)(i:Nat):Int:=if h:i<s.size then (s[i].toNat:Int) else 0
theorem bh {s:ByteArray}{i:Nat}(h:i<s.size):bt s i=(s[i].toNat:Int):=by simp[bt,h]
theorem oo {s:ByteArray}{i:Nat}(h:¬i<s.size):bt s i=0:=by simp[bt,h]
theorem bX (s:ByteArray)(i:Nat):0≤bt s i∧bt s i≤255:=by
 unfold bt;split
 ·have:=s[i].toNat_lt;omega
 ·omega
theorem eO (s:ByteArray)(b i:Nat)(w:World)(_hs:s.size≤400)(hr:Rd w b s i):
  Calls Tryz.prog 140 #[.pointer (some ⟨b,0,none⟩)] w fun e w'=>e=.returned (.int .u8 (bt s i))∧∃ n,w'=w.drewN n:=by
 have c0:=hr.c0
 have c1:=hr.c1
 clear hr
 by_cases h:i<s.size
 ·have H:Hid (bt s i=(s[i].toNat:Int)):=bh h
  have h':decide ((i:Int)<0)=false:=by simp
  have h2:decide ((s.size:Int)≤i)=false:=by simp;omega
  go_enter Tryz.func140,Tryz.ntmps140
  go_wp2
  go_quiet ((fail))
  go_wp2
  go_quiet ((fail))
  go_wp2
  go_ret
  exact⟨kf (by rw[H.out]),_,World.drewN_drewN _ _ _⟩
 ·have H:Hid (bt s i=0):=oo h
  have h':decide ((i:Int)<0)=false:=by simp
  have h2:decide ((s.size:Int)≤i)=true:=by simp;omega
  go_enter Tryz.func140,Tryz.ntmps140
  go_wp2
  go_quiet ((fail))
  go_wp2
  go_ret
  exact⟨kf (by rw[H.out]),_,rfl⟩
theorem iV (c:Int)(w:World)(h0:0≤c)(h1:c≤255)(h:bN c=true):
  Calls Tryz.prog 80 #[.int .u8 c] w fun e w'=>e=.returned (.tuple #[.int .i64 (c - 48),.bool true])∧w=w':=by
 have h:48≤c∧c≤57:=by simpa [bN] using h
 obtain⟨ha,hb⟩:=h
 go_enter Tryz.func80,Tryz.ntmps80
 go_wp2
 go_ret2
 exact⟨rfl,rfl⟩
theorem jB (c:Int)(w:World)(h0:0≤c)(h1:c≤255)(h:bN c=false):
  Calls Tryz.prog 80 #[.int .u8 c] w fun e w'=>e=.returned (.tuple #[.int .i64 0,.bool false])∧w=w':=by
 have h:¬(48≤c∧c≤57):=by simpa [bN] using h
 rcases (show c<48∨57<c by omega) with ha|ha
 all_goals
  go_enter Tryz.func80,Tryz.ntmps80
  go_wp2
  go_ret2
  exact⟨rfl,rfl⟩
theorem ml (c:Int)(w:World)(h0:0≤c)(h1:c≤255)(h:aR c=true):
  Calls Tryz.prog 82 #[.int .u8 c] w fun e w'=>e=.returned (.tuple #[.int .i64 (c - 97),.bool true])∧w=w':=by
 have h:97≤c∧c≤102:=by simpa [aR] using h
 obtain⟨ha,hb⟩:=h
 go_enter Tryz.func82,Tryz.ntmps82
 go_wp2
 go_ret2
 exact⟨rfl,rfl⟩
theorem oh (c:Int)(w:World)(h0:0≤c)(h1:c≤255)(h:aR c=false):
  Calls Tryz.prog 82 #[.int .u8 c] w fun e w'=>e=.returned (.tuple #[.int .i64 0,.bool false])∧w=w':=by
 have h:¬(97≤c∧c≤102):=by simpa [aR] using h
 rcases (show c<97∨102<c by omega) with ha|ha
 all_goals
  go_enter Tryz.func82,Tryz.ntmps82
  go_wp2
  go_ret2
  exact⟨rfl,rfl⟩
theorem dg {s:ByteArray}{i:Nat}(h:bt s i≠0):i<s.size:=by
 by_cases hx:i<s.size
 ·exact hx
 ·exact absurd (oo hx) h
theorem dR {s:ByteArray}{i:Nat}(h:aR (bt s i)=true):i<s.size:=dg (by intro hx;rw[hx] at h;exact absurd h (by decide))
theorem gt {s:ByteArray}{i:Nat}(h:be (bt s i)=true):i<s.size:=dg (by intro hx;rw[hx] at h;exact absurd h (by decide))
theorem lD {s:ByteArray}{i:Nat}(h:c9 (bt s i)=true):i<s.size:=dg (by intro hx;rw[hx] at h;exact absurd h (by decide))
theorem nR {s:ByteArray}{i:Nat}(h:gE (bt s i)=true):i<s.size:=dg (by intro hx;rw[hx] at h;exact absurd h (by decide))
theorem zB {s:ByteArray}{i:Nat}(h:ff (bt s i)=true):i<s.size:=dg (by intro hx;rw[hx] at h;exact absurd h (by decide))
def db (s:ByteArray)(i:Nat):Nat:=if ff (bt s (i+1)) then i+2 else i+1
theorem kg {s:ByteArray}{i:Nat}(h:be (bt s i)=true):db s i≤s.size:=by
 have h1:=gt h
 unfold db;split
 ·have:=zB (by assumption);omega
 ·omega
theorem cM {W w1:World}{b:Nat}(hg:W.grownBy w1 (some b)):
  (∀ bb o,bb<W.heap.size→bb≠b→w1.cell? ⟨bb,o,none⟩=W.cell? ⟨bb,o,none⟩)∧(∀ bb o,bb<W.heap.size→bb≠b→w1.frozen? ⟨bb,o,none⟩=W.frozen? ⟨bb,o,none⟩):=
 ⟨fun bb o h hne=>World.cell?_of_block (a:=⟨bb,o,none⟩) (hg.block bb h (by simpa using hne)),fun bb o h hne=>World.frozen?_of_block (a:=⟨bb,o,none⟩) (hg.block bb h (by simpa using hne))⟩
theorem af {p:Prop}(h:p):Hid p:=h
theorem aO {P:Program}{fn:Func}{p u:Tmp}{ty t:TypeId}(h:fn.results=#[.cell p ty,.tmp u]){tmps:Array Value}{w:World}{g:Nat}{cs:Array Value}{d:TypeDesc}{v:Value}
  (hp:tmps.getD p undef=.pointer (some ⟨g,0,none⟩)) (hg:w.heap[g]?=some (.cells cs t (0,0)))
  (hu:P.underlying ty=some d) (hd:(match d with|.struct _|.array _ _=>true|_=>false)=true) (hi:(P.info? ty).map (·.size)=some cs.size) (hv:tmps.getD u undef=v) :
  (results fn tmps).run P w=.ok (.tuple #[.agg cs,v]) w:=by
 rw[results_cell_tmp h,hp,hv]
 simp[asAddr,run_loadVar_row w g t ty cs (0,0) d hg hu hd hi]
def RP (w:World)(b:Nat)(s:ByteArray)(v:Value)(j:Nat)(e:Ending)(w':World):Prop:=e=.returned v∧Rd w' b s j∧w.grownBy w' (some b)
theorem eP (s:ByteArray)(b i:Nat)(w:World)(hB:s.size≤400∧i≤400)(hr:Rd w b s i)(c:Int)(h:bt s i=c):Calls Tryz.prog 123 #[.pointer (some ⟨b,0,none⟩),.int .u8 c] w (RP w b s (.bool true) (i+1)):=by
 obtain⟨hs,hi⟩:=hB
 have c0:=hr.c0
 have c1:=hr.c1
 have cf:=hr.fz
 have hb:=bX s i
 subst h
 go_enter Tryz.func123,Tryz.ntmps123
 go_wp2_with (go_at_call 140;refine (eO s b i _ hs hr).mono ?_;rintro e w' ⟨rfl,n,rfl⟩)
 go_ret
 exact⟨rfl,(hr.drewN _).step,aj (al (ag _ _) _) (.inl rfl) _⟩
theorem dl (s:ByteArray)(b i:Nat)(w:World)(hB:s.size≤400∧i≤400)(hr:Rd w b s i)(c:Int)(h:¬bt s i=c):Calls Tryz.prog 123 #[.pointer (some ⟨b,0,none⟩),.int .u8 c] w (RP w b s (.bool false) i):=by
 have hs:=hB.1
 have c0:=hr.c0
 have c1:=hr.c1
 have cf:=hr.fz
 have hb:=bX s i
 have h2:(bt s i != c)=true:=by simp[h]
 go_enter Tryz.func123,Tryz.ntmps123
 go_wp2_with (go_at_call 140;refine (eO s b i _ hs hr).mono ?_;rintro e w' ⟨rfl,n,rfl⟩)
 go_ret
 exact⟨rfl,hr.drewN _,al (ag _ _) _⟩
theorem lX (s:ByteArray)(b i:Nat)(w:World)(hB:s.size≤400∧i≤400)(hr:Rd w b s i)(h:bN (bt s i)=true):Calls Tryz.prog 122 #[.pointer (some ⟨b,0,none⟩)] w (RP w b s (.tuple #[.int .i64 (bt s i - 48),.bool true]) (i+1)):=by
 obtain⟨hs,hi⟩:=hB
 have c0:=hr.c0
 have c1:=hr.c1
 have cf:=hr.fz
 have hb:=bX s i
 go_enter Tryz.func122,Tryz.ntmps122
 go_wp2_with (first|(go_at_call 140;refine (eO s b i _ hs hr).mono ?_;rintro e w' ⟨rfl,n,rfl⟩)|(go_at_call 80;refine (iV _ _ hb.1 hb.2 h).mono ?_;rintro e w' ⟨rfl,rfl⟩))
 go_ret2
 exact⟨rfl,(hr.drewN _).step,aj (al (ag _ _) _) (.inl rfl) _⟩
theorem n7 (s:ByteArray)(b i:Nat)(w:World)(hB:s.size≤400∧i≤400)(hr:Rd w b s i)(h:bN (bt s i)=false):Calls Tryz.prog 122 #[.pointer (some ⟨b,0,none⟩)] w (RP w b s (.tuple #[.int .i64 0,.bool false]) i):=by
 have hs:=hB.1
 have c0:=hr.c0
 have c1:=hr.c1
 have cf:=hr.fz
 have hb:=bX s i
 go_enter Tryz.func122,Tryz.ntmps122
 go_wp2_with (first|(go_at_call 140;refine (eO s b i _ hs hr).mono ?_;rintro e w' ⟨rfl,n,rfl⟩)|(go_at_call 80;refine (jB _ _ hb.1 hb.2 h).mono ?_;rintro e w' ⟨rfl,rfl⟩))
 go_ret2
 exact⟨rfl,hr.drewN _,al (ag _ _) _⟩
theorem fC (s:ByteArray)(b i:Nat)(w:World)(hB:s.size≤400∧i≤400)(hr:Rd w b s i)(h:aR (bt s i)=true):Calls Tryz.prog 152 #[.pointer (some ⟨b,0,none⟩)] w (RP w b s (.tuple #[.int .i64 (bt s i - 97),.bool true]) (i+1)):=by
 obtain⟨hs,hi⟩:=hB
 have c0:=hr.c0
 have c1:=hr.c1
 have cf:=hr.fz
 have hb:=bX s i
 go_enter Tryz.func152,Tryz.ntmps152
 go_wp2_with (first|(go_at_call 140;refine (eO s b i _ hs hr).mono ?_;rintro e w' ⟨rfl,n,rfl⟩)|(go_at_call 82;refine (ml _ _ hb.1 hb.2 h).mono ?_;rintro e w' ⟨rfl,rfl⟩))
 go_ret2
 exact⟨rfl,(hr.drewN _).step,aj (al (ag _ _) _) (.inl rfl) _⟩
theorem oq (s:ByteArray)(b i:Nat)(w:World)(hB:s.size≤400∧i≤400)(hr:Rd w b s i)(h:aR (bt s i)=false):Calls Tryz.prog 152 #[.pointer (some ⟨b,0,none⟩)] w (RP w b s (.tuple #[.int .i64 0,.bool false]) i):=by
 have hs:=hB.1
 have c0:=hr.c0
 have c1:=hr.c1
 have cf:=hr.fz
 have hb:=bX s i
 go_enter Tryz.func152,Tryz.ntmps152
 go_wp2_with (first|(go_at_call 140;refine (eO s b i _ hs hr).mono ?_;rintro e w' ⟨rfl,n,rfl⟩)|(go_at_call 82;refine (oh _ _ hb.1 hb.2 h).mono ?_;rintro e w' ⟨rfl,rfl⟩))
 go_ret2
 exact⟨rfl,hr.drewN _,al (ag _ _) _⟩
theorem vG (s:ByteArray)(b i:Nat)(w:World)(hB:s.size≤400∧i≤400)(hr:Rd w b s i)(h:gE (bt s i)=true):Calls Tryz.prog 155 #[.pointer (some ⟨b,0,none⟩)] w (RP w b s (.tuple #[.int .u8 (bt s i),.bool true]) (i+1)):=by
 obtain⟨hs,hi⟩:=hB
 have c0:=hr.c0
 have c1:=hr.c1
 have cf:=hr.fz
 have hb:=bX s i
 have hp:=eO s b i w hs hr
 have h3:bt s i=60∨bt s i=61∨bt s i=35:=by simpa [gE,or_assoc] using h
 clear h
 generalize bt s i=p at*
 rcases h3 with rfl|rfl|rfl
 all_goals
  go_enter Tryz.func155,Tryz.ntmps155
  go_wp2_with (go_at_call 140;refine hp.mono ?_;rintro e w' ⟨rfl,n,rfl⟩)
  go_ret2
  exact⟨rfl,(hr.drewN _).step,aj (al (ag _ _) _) (.inl rfl) _⟩
theorem Fa (s:ByteArray)(b i:Nat)(w:World)(hB:s.size≤400∧i≤400)(hr:Rd w b s i)(h:gE (bt s i)=false):Calls Tryz.prog 155 #[.pointer (some ⟨b,0,none⟩)] w (RP w b s (.tuple #[.int .u8 0,.bool false]) i):=by
 have hs:=hB.1
 have c0:=hr.c0
 have c1:=hr.c1
 have cf:=hr.fz
 have hb:=bX s i
 have h3:(bt s i != 60)=true∧(bt s i != 61)=true∧(bt s i != 35)=true:=by simpa [gE,and_assoc] using h
 obtain⟨k1,k2,k3⟩:=h3
 clear h
 go_enter Tryz.func155,Tryz.ntmps155
 go_wp2_with (go_at_call 140;refine (eO s b i _ hs hr).mono ?_;rintro e w' ⟨rfl,n,rfl⟩)
 go_ret2
 exact⟨rfl,hr.drewN _,al (ag _ _) _⟩
theorem nx {w w1:World}{b i:Nat}{s:ByteArray}{o:Obj}(hr:Rd w1 b s i)(hg:(w.alloc o).grownBy w1 (some b))(hne:w.heap.size≠b):
  ((∀ bb o',bb<(w.alloc o).heap.size→bb≠b→w1.cell? ⟨bb,o',none⟩=(w.alloc o).cell? ⟨bb,o',none⟩)∧(∀ bb o',bb<(w.alloc o).heap.size→bb≠b→w1.frozen? ⟨bb,o',none⟩=(w.alloc o).frozen? ⟨bb,o',none⟩))∧w1.heap.size≠b∧w.heap.size<w1.heap.size∧w.heap.size≤w1.heap.size∧w.heap.size≠w1.heap.size∧Hid (w1.heap[w.heap.size]?=some o):=by
 have h1:=hr.lt
 have h2:=hg.size
 simp at h2
 exact⟨cM hg,by omega,by omega,by omega,by omega,af ((hg.block w.heap.size (by simp) (by simp;omega)).trans (heap_alloc_new w _))⟩
theorem bk {w:World}{g:Nat}{cs:Array Value}{t:TypeId}{v:Value}(i:Nat)(hg:w.heap[g]?=some (.cells cs t (0,0))):(w.setCell ⟨g,i,none⟩ v).heap[g]?=some (.cells (cs.setIfInBounds i v) t (0,0)):=Go.heap_setCell_same _ _ i _ _ _ hg
theorem eF (s:ByteArray)(b i:Nat)(w:World)(hB:s.size≤400∧i≤400)(hr:Rd w b s i)(h:be (bt s i)=true):Calls Tryz.prog 154 #[.pointer (some ⟨b,0,none⟩)] w (RP w b s (.tuple #[.agg #[.int .i64 (dy (bt s i)),.int .i64 (dE (bt s i))],.bool true]) (i+1)):=by
 have hl:=hr.lt
 have hne:w.heap.size≠b:=by omega
 have hs:=hB.1
 have hi:=hB.2
 have hb:=bX s i
 by_cases hd:bN (bt s i)=true
 ·have e2:dy (bt s i)=1:=by simp[dy,hd]
  have e3:dE (bt s i)=bt s i - 48:=by simp[dE,hd]
  rw[e2,e3]
  clear e2 e3 h
  go_enter Tryz.func154,Tryz.ntmps154
  go_wp2_with fail
  go_at_call 122
  refine (lX s b i _ hB (hr.alloc _) hd).mono ?_
  rintro e w1 ⟨rfl,hr1,hg1⟩
  obtain⟨⟨hc1,hf1⟩,hn1,hzw1,hyw1,hxw1,hk1⟩:=nx hr1 hg1 (by omega)
  go_wp2
  refine bodyPost_ret (v:=.tuple #[.agg #[.int .i64 1,.int .i64 (bt s i - 48)],.bool true]) (aO Tryz.results154 rfl (bk 1 (bk 0 hk1.out)) Tryz.underlying204 rfl (by kernel_rfl) rfl) rfl ⟨rfl,?_,?_⟩
  ·with_reducible repeat' (first|assumption|refine Rd.alloc ?_ _|refine Rd.drewN ?_ _|refine Rd.step ?_|refine Rd.other ?_ ?_ _|(simp;omega))
  ·with_reducible repeat' (first|assumption|exact ag _ _|refine aj ?_ ?_ _|refine ab ?_ _|refine al ?_ _|refine ae ?_ (by assumption)|(right;simp;done)|(right;simp;omega)|(left;rfl))
 ·have hd:bN (bt s i)=false:=by simpa using hd
  have hl2:ex (bt s i)=true:=by simpa [be,hd] using h
  have e2:dy (bt s i)=2:=by simp[dy,hd,hl2]
  have e3:dE (bt s i)=bt s i - 119:=by simp[dE,hd,hl2]
  have hlt:119≤bt s i∧bt s i≤122:=by simpa [ex] using hl2
  rw[e2,e3]
  clear e2 e3 h hl2
  obtain⟨k1,k2⟩:=hlt
  go_enter Tryz.func154,Tryz.ntmps154
  go_wp2_with fail
  go_at_call 122
  refine (n7 s b i _ hB (hr.alloc _) hd).mono ?_
  rintro e w1 ⟨rfl,hr1,hg1⟩
  obtain⟨⟨hc1,hf1⟩,hn1,hzw1,hyw1,hxw1,hk1⟩:=nx hr1 hg1 (by omega)
  have k3:=hr1.c1
  have k4:=hr1.fz
  have hkP:=af ((Below.heap_setCell w1 ⟨b,1,none⟩ (.int .i64 ((i:Int)+1)) w.heap.size hne).trans hk1.out)
  go_wp2_with fail
  go_at_call 140
  refine (eO s b i _ hs hr1).mono ?_
  rintro e w2 ⟨rfl,n,rfl⟩
  go_wp2
  refine bodyPost_ret (v:=.tuple #[.agg #[.int .i64 2,.int .i64 (bt s i - 119)],.bool true]) (aO Tryz.results154 rfl (bk 1 (bk 0 hkP.out)) Tryz.underlying204 rfl (by kernel_rfl) rfl) rfl ⟨rfl,?_,?_⟩
  ·with_reducible repeat' (first|assumption|refine Rd.alloc ?_ _|refine Rd.drewN ?_ _|refine Rd.step ?_|refine Rd.other ?_ ?_ _|(simp;omega))
  ·with_reducible repeat' (first|assumption|exact ag _ _|refine aj ?_ ?_ _|refine ab ?_ _|refine al ?_ _|refine ae ?_ (by assumption)|(right;simp;done)|(right;simp;omega)|(left;rfl))
theorem kr (s:ByteArray)(b i:Nat)(w:World)(hB:s.size≤400∧i≤400)(hr:Rd w b s i)(h:be (bt s i)=false):Calls Tryz.prog 154 #[.pointer (some ⟨b,0,none⟩)] w (RP w b s (.tuple #[.agg #[.int .i64 0,.int .i64 0],.bool false]) (i)):=by
 have hl:=hr.lt
 have hne:w.heap.size≠b:=by omega
 have hs:=hB.1
 have hb:=bX s i
 have hd:bN (bt s i)=false:=by cases hx:bN (bt s i) <;> simp_all [be]
 have hl2:¬(119≤bt s i∧bt s i≤122):=by simpa [be,hd,ex] using h
 clear h
 rcases (show bt s i<119∨122<bt s i by omega) with hk|hk
 all_goals
  clear hl2
  go_enter Tryz.func154,Tryz.ntmps154
  go_wp2_with fail
  go_at_call 122
  refine (n7 s b i _ hB (hr.alloc _) hd).mono ?_
  rintro e w1 ⟨rfl,hr1,hg1⟩
  obtain⟨⟨hc1,hf1⟩,hn1,hzw1,hyw1,hxw1,hk1⟩:=nx hr1 hg1 (by omega)
  have k3:=hr1.c1
  have k4:=hr1.fz
  go_wp2_with fail
  go_at_call 140
  refine (eO s b i _ hs hr1).mono ?_
  rintro e w2 ⟨rfl,n,rfl⟩
  go_wp2
  refine bodyPost_ret (v:=.tuple #[.agg #[.int .i64 0,.int .i64 0],.bool false]) (aO Tryz.results154 rfl (bk 1 (bk 0 hk1.out)) Tryz.underlying204 rfl (by kernel_rfl) rfl) rfl ⟨rfl,?_,?_⟩
  ·with_reducible repeat' (first|assumption|refine Rd.alloc ?_ _|refine Rd.drewN ?_ _|refine Rd.step ?_|refine Rd.other ?_ ?_ _|(simp;omega))
  ·with_reducible repeat' (first|assumption|exact ag _ _|refine aj ?_ ?_ _|refine ab ?_ _|refine al ?_ _|refine ae ?_ (by assumption)|(right;simp;done)|(right;simp;omega)|(left;rfl))
theorem qV (s:ByteArray)(b i:Nat)(w:World)(hB:s.size≤400∧i≤400)(hr:Rd w b s i)(h:c9 (bt s i)=true):Calls Tryz.prog 153 #[.pointer (some ⟨b,0,none⟩)] w (RP w b s (.tuple #[.agg #[.int .i64 (dy (bt s i)),.int .i64 (dE (bt s i))],.bool true]) (i+1)):=by
 have hl:=hr.lt
 have hne:w.heap.size≠b:=by omega
 by_cases hd:bt s i=95
 ·have e2:dy (bt s i)=0:=by rw[hd];rfl
  have e3:dE (bt s i)=0:=by rw[hd];rfl
  rw[e2,e3]
  have H:Hid (bt s i=95):=hd
  clear e2 e3 h hd
  go_enter Tryz.func153,Tryz.ntmps153
  go_wp2_with fail
  go_at_call 123
  refine (eP s b i _ hB (hr.alloc _) 95 H.out).mono ?_
  rintro e w1 ⟨rfl,hr1,hg1⟩
  obtain⟨⟨hc1,hf1⟩,hn1,hzw1,hyw1,hxw1,hk1⟩:=nx hr1 hg1 (by omega)
  go_wp2
  refine bodyPost_ret (v:=.tuple #[.agg #[.int .i64 0,.int .i64 0],.bool true]) (aO Tryz.results153 rfl (bk 1 (bk 0 hk1.out)) Tryz.underlying204 rfl (by kernel_rfl) rfl) rfl ⟨rfl,?_,?_⟩
  ·with_reducible repeat' (first|assumption|refine Rd.alloc ?_ _|refine Rd.drewN ?_ _|refine Rd.step ?_|refine Rd.other ?_ ?_ _|(simp;omega))
  ·with_reducible repeat' (first|assumption|exact ag _ _|refine aj ?_ ?_ _|refine ab ?_ _|refine al ?_ _|refine ae ?_ (by assumption)|(right;simp;done)|(right;simp;omega)|(left;rfl))
 ·have H:Hid (¬bt s i=95):=hd
  have hsim:be (bt s i)=true:=by simpa [c9,hd] using h
  clear h hd
  go_enter Tryz.func153,Tryz.ntmps153
  go_wp2_with fail
  go_at_call 123
  refine (dl s b i _ hB (hr.alloc _) 95 H.out).mono ?_
  rintro e w1 ⟨rfl,hr1,hg1⟩
  obtain⟨⟨hc1,hf1⟩,hn1,hzw1,hyw1,hxw1,hk1⟩:=nx hr1 hg1 (by omega)
  go_wp2_with fail
  go_at_call 154
  refine (eF s b i _ hB (by with_reducible repeat' (first|assumption|refine Rd.alloc ?_ _|refine Rd.drewN ?_ _|refine Rd.step ?_|refine Rd.other ?_ ?_ _|(simp;omega))) hsim).mono ?_
  rintro e w2 ⟨rfl,hr2,hg2⟩
  obtain⟨hc2,hf2⟩:=cM hg2
  have hn2:w2.heap.size≠b:=by have:=hr2.lt;omega
  have hzw2:w.heap.size<w2.heap.size:=by have:=hg2.size;(try simp at this);omega
  have hyw2:=Nat.le_of_lt hzw2
  have hxw2:=Nat.ne_of_lt hzw2
  have hk2:=af ((hg2.block w.heap.size (by (try simp);omega) (by simp;omega)).trans hk1.out)
  go_wp2
  refine bodyPost_ret (v:=.tuple #[.agg #[.int .i64 (dy (bt s i)),.int .i64 (dE (bt s i))],.bool true]) (aO Tryz.results153 rfl (bk 1 (bk 0 hk2.out)) Tryz.underlying204 rfl (by kernel_rfl) rfl) rfl ⟨rfl,?_,?_⟩
  ·with_reducible repeat' (first|assumption|refine Rd.alloc ?_ _|refine Rd.drewN ?_ _|refine Rd.step ?_|refine Rd.other ?_ ?_ _|(simp;omega))
  ·with_reducible repeat' (first|assumption|exact ag _ _|refine aj ?_ ?_ _|refine ab ?_ _|refine al ?_ _|refine ae ?_ (by assumption)|(right;simp;done)|(right;simp;omega)|(left;rfl))
theorem yW (s:ByteArray)(b i:Nat)(w:World)(hB:s.size≤400∧i≤400)(hr:Rd w b s i)(h:c9 (bt s i)=false):Calls Tryz.prog 153 #[.pointer (some ⟨b,0,none⟩)] w (RP w b s (.tuple #[.agg #[.int .i64 0,.int .i64 0],.bool false]) (i)):=by
 have hl:=hr.lt
 have hne:w.heap.size≠b:=by omega
 have hd:¬bt s i=95:=by intro hx;simp[c9,hx] at h
 have H:Hid (¬bt s i=95):=hd
 have hsim:be (bt s i)=false:=by cases hx:be (bt s i) <;> simp_all [c9]
 clear h hd
 go_enter Tryz.func153,Tryz.ntmps153
 go_wp2_with fail
 go_at_call 123
 refine (dl s b i _ hB (hr.alloc _) 95 H.out).mono ?_
 rintro e w1 ⟨rfl,hr1,hg1⟩
 obtain⟨⟨hc1,hf1⟩,hn1,hzw1,hyw1,hxw1,hk1⟩:=nx hr1 hg1 (by omega)
 go_wp2_with fail
 go_at_call 154
 refine (kr s b i _ hB (by with_reducible repeat' (first|assumption|refine Rd.alloc ?_ _|refine Rd.drewN ?_ _|refine Rd.step ?_|refine Rd.other ?_ ?_ _|(simp;omega))) hsim).mono ?_
 rintro e w2 ⟨rfl,hr2,hg2⟩
 obtain⟨hc2,hf2⟩:=cM hg2
 have hn2:w2.heap.size≠b:=by have:=hr2.lt;omega
 have hzw2:w.heap.size<w2.heap.size:=by have:=hg2.size;(try simp at this);omega
 have hyw2:=Nat.le_of_lt hzw2
 have hxw2:=Nat.ne_of_lt hzw2
 have hk2:=af ((hg2.block w.heap.size (by (try simp);omega) (by simp;omega)).trans hk1.out)
 go_wp2
 refine bodyPost_ret (v:=.tuple #[.agg #[.int .i64 0,.int .i64 0],.bool false]) (aO Tryz.results153 rfl (bk 1 (bk 0 hk2.out)) Tryz.underlying204 rfl (by kernel_rfl) rfl) rfl ⟨rfl,?_,?_⟩
 ·with_reducible repeat' (first|assumption|refine Rd.alloc ?_ _|refine Rd.drewN ?_ _|refine Rd.step ?_|refine Rd.other ?_ ?_ _|(simp;omega))
 ·with_reducible repeat' (first|assumption|exact ag _ _|refine aj ?_ ?_ _|refine ab ?_ _|refine al ?_ _|refine ae ?_ (by assumption)|(right;simp;done)|(right;simp;omega)|(left;rfl))
theorem th (s:ByteArray)(b i:Nat)(w:World)(hB:s.size≤400∧i≤400)(hr:Rd w b s i)(h:be (bt s i)=false):Calls Tryz.prog 156 #[.pointer (some ⟨b,0,none⟩)] w (RP w b s (.tuple #[.agg #[.int .i64 0,.int .i64 0,.int .i64 0],.bool false]) (i)):=by
 have hl:=hr.lt
 have hne:w.heap.size≠b:=by omega
 go_enter Tryz.func156,Tryz.ntmps156
 go_wp2_with fail
 go_at_call 154
 refine (kr s b i _ hB (hr.alloc _) h).mono ?_
 rintro e w1 ⟨rfl,hr1,hg1⟩
 obtain⟨⟨hc1,hf1⟩,hn1,hzw1,hyw1,hxw1,hk1⟩:=nx hr1 hg1 (by omega)
 go_wp2
 refine bodyPost_ret (v:=.tuple #[.agg #[.int .i64 0,.int .i64 0,.int .i64 0],.bool false]) (aO Tryz.results156 rfl ((Below.heap_alloc _ _ _ (by simp;omega)).trans (bk 2 (bk 1 (bk 0 hk1.out)))) Tryz.underlying217 rfl (by kernel_rfl) rfl) rfl ⟨rfl,?_,?_⟩
 ·with_reducible repeat' (first|assumption|refine Rd.alloc ?_ _|refine Rd.drewN ?_ _|refine Rd.step ?_|refine Rd.other ?_ ?_ _|(simp;omega))
 ·with_reducible repeat' (first|assumption|exact ag _ _|refine aj ?_ ?_ _|refine ab ?_ _|refine al ?_ _|refine ae ?_ (by assumption)|(right;simp;done)|(right;simp;omega)|(left;rfl))
theorem E7 (s:ByteArray)(b i:Nat)(w:World)(hB:s.size≤400∧i≤400)(hr:Rd w b s i)(h:be (bt s i)=true)(hB1:i+1≤400)(ht:bt s (i+1)=94):Calls Tryz.prog 156 #[.pointer (some ⟨b,0,none⟩)] w (RP w b s (.tuple #[.agg #[.int .i64 (dy (bt s i)),.int .i64 (dE (bt s i)),.int .i64 1],.bool true]) (i+2)):=by
 have hl:=hr.lt
 have hne:w.heap.size≠b:=by omega
 have hs:=hB.1
 have H:Hid (bt s (i+1)=94):=ht
 clear ht
 go_enter Tryz.func156,Tryz.ntmps156
 go_wp2_with fail
 go_at_call 154
 refine (eF s b i _ hB (hr.alloc _) h).mono ?_
 rintro e w1 ⟨rfl,hr1,hg1⟩
 obtain⟨⟨hc1,hf1⟩,hn1,hzw1,hyw1,hxw1,hk1⟩:=nx hr1 hg1 (by omega)
 go_wp2_with fail
 go_at_call 123
 refine (eP s b (i+1) _ ⟨hs,hB1⟩ (by with_reducible repeat' (first|assumption|refine Rd.alloc ?_ _|refine Rd.drewN ?_ _|refine Rd.step ?_|refine Rd.other ?_ ?_ _|(simp;omega))) 94 H.out).mono ?_
 rintro e w2 ⟨rfl,hr2,hg2⟩
 obtain⟨hc2,hf2⟩:=cM hg2
 have hn2:w2.heap.size≠b:=by have:=hr2.lt;omega
 have hzw2:w.heap.size<w2.heap.size:=by have:=hg2.size;(try simp at this);omega
 have hyw2:=Nat.le_of_lt hzw2
 have hxw2:=Nat.ne_of_lt hzw2
 have hzw12:w1.heap.size<w2.heap.size:=by have:=hg2.size;(try simp at this);omega
 have hyw12:=Nat.le_of_lt hzw12
 have hxw12:=Nat.ne_of_lt hzw12
 have hk2:=af ((hg2.block w.heap.size (by (try simp);omega) (by simp;omega)).trans ((Below.heap_alloc _ _ _ hzw1).trans hk1.out))
 go_wp2
 refine bodyPost_ret (v:=.tuple #[.agg #[.int .i64 (dy (bt s i)),.int .i64 (dE (bt s i)),.int .i64 1],.bool true]) (aO Tryz.results156 rfl (bk 2 (bk 1 (bk 0 hk2.out))) Tryz.underlying217 rfl (by kernel_rfl) rfl) rfl ⟨rfl,?_,?_⟩
 ·with_reducible repeat' (first|assumption|refine Rd.alloc ?_ _|refine Rd.drewN ?_ _|refine Rd.step ?_|refine Rd.other ?_ ?_ _|(simp;omega))
 ·with_reducible repeat' (first|assumption|exact ag _ _|refine aj ?_ ?_ _|refine ab ?_ _|refine al ?_ _|refine ae ?_ (by assumption)|(right;simp;done)|(right;simp;omega)|(left;rfl))
theorem AD (s:ByteArray)(b i:Nat)(w:World)(hB:s.size≤400∧i≤400)(hr:Rd w b s i)(h:be (bt s i)=true)(hB1:i+1≤400)(ht:bt s (i+1)=126):Calls Tryz.prog 156 #[.pointer (some ⟨b,0,none⟩)] w (RP w b s (.tuple #[.agg #[.int .i64 (dy (bt s i)),.int .i64 (dE (bt s i)),.int .i64 (-1)],.bool true]) (i+2)):=by
 have hl:=hr.lt
 have hne:w.heap.size≠b:=by omega
 have hs:=hB.1
 have H1:Hid (¬bt s (i+1)=94):=by intro hx;omega
 have H:Hid (bt s (i+1)=126):=ht
 clear ht
 go_enter Tryz.func156,Tryz.ntmps156
 go_wp2_with fail
 go_at_call 154
 refine (eF s b i _ hB (hr.alloc _) h).mono ?_
 rintro e w1 ⟨rfl,hr1,hg1⟩
 obtain⟨⟨hc1,hf1⟩,hn1,hzw1,hyw1,hxw1,hk1⟩:=nx hr1 hg1 (by omega)
 go_wp2_with fail
 go_at_call 123
 refine (dl s b (i+1) _ ⟨hs,hB1⟩ (by with_reducible repeat' (first|assumption|refine Rd.alloc ?_ _|refine Rd.drewN ?_ _|refine Rd.step ?_|refine Rd.other ?_ ?_ _|(simp;omega))) 94 H1.out).mono ?_
 rintro e w2 ⟨rfl,hr2,hg2⟩
 obtain⟨hc2,hf2⟩:=cM hg2
 have hn2:w2.heap.size≠b:=by have:=hr2.lt;omega
 have hzw2:w.heap.size<w2.heap.size:=by have:=hg2.size;(try simp at this);omega
 have hyw2:=Nat.le_of_lt hzw2
 have hxw2:=Nat.ne_of_lt hzw2
 have hzw12:w1.heap.size<w2.heap.size:=by have:=hg2.size;(try simp at this);omega
 have hyw12:=Nat.le_of_lt hzw12
 have hxw12:=Nat.ne_of_lt hzw12
 have hk2:=af ((hg2.block w.heap.size (by (try simp);omega) (by simp;omega)).trans ((Below.heap_alloc _ _ _ hzw1).trans hk1.out))
 go_wp2_with fail
 go_at_call 123
 refine (eP s b (i+1) _ ⟨hs,hB1⟩ (by with_reducible repeat' (first|assumption|refine Rd.alloc ?_ _|refine Rd.drewN ?_ _|refine Rd.step ?_|refine Rd.other ?_ ?_ _|(simp;omega))) 126 H.out).mono ?_
 rintro e w3 ⟨rfl,hr3,hg3⟩
 obtain⟨hc3,hf3⟩:=cM hg3
 have hn3:w3.heap.size≠b:=by have:=hr3.lt;omega
 have hzw3:w.heap.size<w3.heap.size:=by have:=hg3.size;(try simp at this);omega
 have hyw3:=Nat.le_of_lt hzw3
 have hxw3:=Nat.ne_of_lt hzw3
 have hzw13:w1.heap.size<w3.heap.size:=by have:=hg3.size;(try simp at this);omega
 have hyw13:=Nat.le_of_lt hzw13
 have hxw13:=Nat.ne_of_lt hzw13
 have hk3:=af ((hg3.block w.heap.size (by (try simp);omega) (by simp;omega)).trans hk2.out)
 go_wp2
 refine bodyPost_ret (v:=.tuple #[.agg #[.int .i64 (dy (bt s i)),.int .i64 (dE (bt s i)),.int .i64 (-1)],.bool true]) (aO Tryz.results156 rfl (bk 2 (bk 1 (bk 0 hk3.out))) Tryz.underlying217 rfl (by kernel_rfl) rfl) rfl ⟨rfl,?_,?_⟩
 ·with_reducible repeat' (first|assumption|refine Rd.alloc ?_ _|refine Rd.drewN ?_ _|refine Rd.step ?_|refine Rd.other ?_ ?_ _|(simp;omega))
 ·with_reducible repeat' (first|assumption|exact ag _ _|refine aj ?_ ?_ _|refine ab ?_ _|refine al ?_ _|refine ae ?_ (by assumption)|(right;simp;done)|(right;simp;omega)|(left;rfl))
theorem wW (s:ByteArray)(b i:Nat)(w:World)(hB:s.size≤400∧i≤400)(hr:Rd w b s i)(h:be (bt s i)=true)(hB1:i+1≤400)(ht:ff (bt s (i+1))=false):Calls Tryz.prog 156 #[.pointer (some ⟨b,0,none⟩)] w (RP w b s (.tuple #[.agg #[.int .i64 (dy (bt s i)),.int .i64 (dE (bt s i)),.int .i64 0],.bool true]) (i+1)):=by
 have hl:=hr.lt
 have hne:w.heap.size≠b:=by omega
 have hs:=hB.1
 have H1:Hid (¬bt s (i+1)=94):=by intro hx;simp[ff,hx] at ht
 have H:Hid (¬bt s (i+1)=126):=by intro hx;simp[ff,hx] at ht
 clear ht
 go_enter Tryz.func156,Tryz.ntmps156
 go_wp2_with fail
 go_at_call 154
 refine (eF s b i _ hB (hr.alloc _) h).mono ?_
 rintro e w1 ⟨rfl,hr1,hg1⟩
 obtain⟨⟨hc1,hf1⟩,hn1,hzw1,hyw1,hxw1,hk1⟩:=nx hr1 hg1 (by omega)
 go_wp2_with fail
 go_at_call 123
 refine (dl s b (i+1) _ ⟨hs,hB1⟩ (by with_reducible repeat' (first|assumption|refine Rd.alloc ?_ _|refine Rd.drewN ?_ _|refine Rd.step ?_|refine Rd.other ?_ ?_ _|(simp;omega))) 94 H1.out).mono ?_
 rintro e w2 ⟨rfl,hr2,hg2⟩
 obtain⟨hc2,hf2⟩:=cM hg2
 have hn2:w2.heap.size≠b:=by have:=hr2.lt;omega
 have hzw2:w.heap.size<w2.heap.size:=by have:=hg2.size;(try simp at this);omega
 have hyw2:=Nat.le_of_lt hzw2
 have hxw2:=Nat.ne_of_lt hzw2
 have hzw12:w1.heap.size<w2.heap.size:=by have:=hg2.size;(try simp at this);omega
 have hyw12:=Nat.le_of_lt hzw12
 have hxw12:=Nat.ne_of_lt hzw12
 have hk2:=af ((hg2.block w.heap.size (by (try simp);omega) (by simp;omega)).trans ((Below.heap_alloc _ _ _ hzw1).trans hk1.out))
 go_wp2_with fail
 go_at_call 123
 refine (dl s b (i+1) _ ⟨hs,hB1⟩ (by with_reducible repeat' (first|assumption|refine Rd.alloc ?_ _|refine Rd.drewN ?_ _|refine Rd.step ?_|refine Rd.other ?_ ?_ _|(simp;omega))) 126 H.out).mono ?_
 rintro e w3 ⟨rfl,hr3,hg3⟩
 obtain⟨hc3,hf3⟩:=cM hg3
 have hn3:w3.heap.size≠b:=by have:=hr3.lt;omega
 have hzw3:w.heap.size<w3.heap.size:=by have:=hg3.size;(try simp at this);omega
 have hyw3:=Nat.le_of_lt hzw3
 have hxw3:=Nat.ne_of_lt hzw3
 have hzw13:w1.heap.size<w3.heap.size:=by have:=hg3.size;(try simp at this);omega
 have hyw13:=Nat.le_of_lt hzw13
 have hxw13:=Nat.ne_of_lt hzw13
 have hk3:=af ((hg3.block w.heap.size (by (try simp);omega) (by simp;omega)).trans hk2.out)
 go_wp2
 refine bodyPost_ret (v:=.tuple #[.agg #[.int .i64 (dy (bt s i)),.int .i64 (dE (bt s i)),.int .i64 0],.bool true]) (aO Tryz.results156 rfl (bk 2 (bk 1 (bk 0 hk3.out))) Tryz.underlying217 rfl (by kernel_rfl) rfl) rfl ⟨rfl,?_,?_⟩
 ·with_reducible repeat' (first|assumption|refine Rd.alloc ?_ _|refine Rd.drewN ?_ _|refine Rd.step ?_|refine Rd.other ?_ ?_ _|(simp;omega))
 ·with_reducible repeat' (first|assumption|exact ag _ _|refine aj ?_ ?_ _|refine ab ?_ _|refine al ?_ _|refine ae ?_ (by assumption)|(right;simp;done)|(right;simp;omega)|(left;rfl))
end Go.Proofs.YthlhbjnkohinmaaGreat
