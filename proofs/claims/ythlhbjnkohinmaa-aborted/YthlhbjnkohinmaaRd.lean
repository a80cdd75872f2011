/- The reader of a text of rules: what lies in its block, and what its smallest methods do. -/
import Derived.Test.YthlhbjnkohinmaaProg
import Derived.Test.YthlhbjnkohinmaaBytes
import Derived.WalkKit
import Derived.WalkSpells
import Derived.WalkLawsBesides
import Derived.Deep.QuietTactic
import Derived.BigQuiet
namespace Go.Proofs.Ythlhbjnkohinmaa
open Go.RowKit

/-- In block b lies a reader of the text s at the place i. -/
def Rd (w : World) (b : Nat) (s : ByteArray) (i : Nat) : Prop := w.heap[b]? = some (.cells #[.string s, .int .i64 (i : Int)] 152 (0, 0))

theorem Rd.c0 {w : World} {b : Nat} {s : ByteArray} {i : Nat} (h : Rd w b s i) : w.cell? ⟨b, 0, none⟩ = some (.string s) := by unfold Rd at h; simp [World.cell?, h]
theorem Rd.c1 {w : World} {b : Nat} {s : ByteArray} {i : Nat} (h : Rd w b s i) : w.cell? ⟨b, 1, none⟩ = some (.int .i64 (i : Int)) := by unfold Rd at h; simp [World.cell?, h]
theorem Rd.fz {w : World} {b : Nat} {s : ByteArray} {i : Nat} (h : Rd w b s i) : w.frozen? ⟨b, 1, none⟩ = false := by unfold Rd at h; simp [World.frozen?, h]
theorem Rd.lt {w : World} {b : Nat} {s : ByteArray} {i : Nat} (h : Rd w b s i) : b < w.heap.size := lt_of_block h
theorem Rd.drewN {w : World} {b : Nat} {s : ByteArray} {i : Nat} (h : Rd w b s i) (n : Nat) : Rd (w.drewN n) b s i := h
theorem Rd.alloc {w : World} {b : Nat} {s : ByteArray} {i : Nat} (h : Rd w b s i) (o : Obj) : Rd (w.alloc o) b s i := (Below.heap_alloc w o b h.lt).trans h
theorem Rd.step {w : World} {b : Nat} {s : ByteArray} {i : Nat} (h : Rd w b s i) : Rd (w.setCell ⟨b, 1, none⟩ (.int .i64 ((i : Int) + 1))) b s (i + 1) := by
  unfold Rd at h ⊢
  rw [Go.heap_setCell_same w b 1 _ _ _ h]
  simp
theorem Rd.other {w : World} {b : Nat} {s : ByteArray} {i : Nat} (h : Rd w b s i) {a : Addr} (ha : b ≠ a.block) (u : Value) : Rd (w.setCell a u) b s i := (Below.heap_setCell w a u b ha).trans h

theorem grown_refl (w : World) (r : Option Nat) : w.grownBy w r := ⟨rfl, rfl, rfl, Nat.le_refl _, fun _ _ _ => rfl⟩
theorem grown_drewN {w w' : World} {r : Option Nat} (h : w.grownBy w' r) (n : Nat) : w.grownBy (w'.drewN n) r := ⟨h.os, h.tape, h.output, h.size, h.block⟩
theorem grown_undrew {w w' : World} {r : Option Nat} {n : Nat} (h : (w.drewN n).grownBy w' r) : w.grownBy w' r := ⟨h.os, h.tape, h.output, h.size, h.block⟩
theorem grown_trans {a b c : World} {r : Option Nat} (h : a.grownBy b r) (k : b.grownBy c r) : a.grownBy c r :=
  ⟨k.os.trans h.os, k.tape.trans h.tape, k.output.trans h.output, Nat.le_trans h.size k.size, fun i hi hr => (k.block i (Nat.lt_of_lt_of_le hi h.size) hr).trans (h.block i hi hr)⟩
theorem grown_alloc {w w' : World} {r : Option Nat} (h : w.grownBy w' r) (o : Obj) : w.grownBy (w'.alloc o) r := grown_trans h (World.grownBy_alloc w' o r)
theorem grown_set {w w' : World} {r : Option Nat} (h : w.grownBy w' r) {a : Addr} (ha : r = some a.block ∨ w.heap.size ≤ a.block) (u : Value) : w.grownBy (w'.setCell a u) r := by
  have hb := Below.setCell (Below.refl 0 w') (p := a) (Nat.zero_le _) u
  exact ⟨hb.os.trans h.os, hb.tape.trans h.tape, hb.output.trans h.output, Nat.le_trans h.size hb.size, fun i hi hr => by
    rw [Below.heap_setCell w' a u i (by rcases ha with e | e; · intro c; subst c; exact hr e.symm
                                        · omega)]
    exact h.block i hi hr⟩

/-- The byte at a place of a text; 0 at its end and beyond. -/
def bt (s : ByteArray) (i : Nat) : Int := if h : i < s.size then (s[i].toNat : Int) else 0
theorem bt_in {s : ByteArray} {i : Nat} (h : i < s.size) : bt s i = (s[i].toNat : Int) := by simp [bt, h]
theorem bt_out {s : ByteArray} {i : Nat} (h : ¬ i < s.size) : bt s i = 0 := by simp [bt, h]
theorem bt_bd (s : ByteArray) (i : Nat) : 0 ≤ bt s i ∧ bt s i ≤ 255 := by
  unfold bt; split
  · have := s[i].toNat_lt; omega
  · omega

set_option maxHeartbeats 400000 in
theorem peek_any (s : ByteArray) (b i : Nat) (w : World) (_hs : s.size ≤ 400) (hr : Rd w b s i) :
    Calls Try.prog 97 #[.pointer (some ⟨b, 0, none⟩)] w fun e w' => e = .returned (.int .u8 (bt s i)) ∧ ∃ n, w' = w.drewN n := by
  have c0 := hr.c0
  have c1 := hr.c1
  clear hr
  by_cases h : i < s.size
  · have H : Hid (bt s i = (s[i].toNat : Int)) := bt_in h
    have h' : decide ((i : Int) < 0) = false := by simp
    have h2 : decide ((s.size : Int) ≤ i) = false := by simp; omega
    go_enter Try.func97, Try.ntmps97
    go_wp2
    go_quiet ((fail))
    go_wp2
    go_quiet ((fail))
    go_wp2
    go_ret
    exact ⟨ret_int (by rw [H.out]), _, World.drewN_drewN _ _ _⟩
  · have H : Hid (bt s i = 0) := bt_out h
    have h' : decide ((i : Int) < 0) = false := by simp
    have h2 : decide ((s.size : Int) ≤ i) = true := by simp; omega
    go_enter Try.func97, Try.ntmps97
    go_wp2
    go_quiet ((fail))
    go_wp2
    go_ret
    exact ⟨ret_int (by rw [H.out]), _, rfl⟩

theorem cdigit_yes (c : Int) (w : World) (h0 : 0 ≤ c) (h1 : c ≤ 255) (h : digB c = true) :
    Calls Try.prog 69 #[.int .u8 c] w fun e w' => e = .returned (.tuple #[.int .i64 (c - 48), .bool true]) ∧ w = w' := by
  have h : 48 ≤ c ∧ c ≤ 57 := by simpa [digB] using h
  obtain ⟨ha, hb⟩ := h
  go_enter Try.func69, Try.ntmps69
  go_wp2
  go_ret2
  exact ⟨rfl, rfl⟩

theorem cdigit_no (c : Int) (w : World) (h0 : 0 ≤ c) (h1 : c ≤ 255) (h : digB c = false) :
    Calls Try.prog 69 #[.int .u8 c] w fun e w' => e = .returned (.tuple #[.int .i64 0, .bool false]) ∧ w = w' := by
  have h : ¬ (48 ≤ c ∧ c ≤ 57) := by simpa [digB] using h
  rcases (show c < 48 ∨ 57 < c by omega) with ha | ha
  all_goals
    go_enter Try.func69, Try.ntmps69
    go_wp2
    go_ret2
    exact ⟨rfl, rfl⟩

theorem cclass_yes (c : Int) (w : World) (h0 : 0 ≤ c) (h1 : c ≤ 255) (h : clsB c = true) :
    Calls Try.prog 71 #[.int .u8 c] w fun e w' => e = .returned (.tuple #[.int .i64 (c - 97), .bool true]) ∧ w = w' := by
  have h : 97 ≤ c ∧ c ≤ 102 := by simpa [clsB] using h
  obtain ⟨ha, hb⟩ := h
  go_enter Try.func71, Try.ntmps71
  go_wp2
  go_ret2
  exact ⟨rfl, rfl⟩

theorem cclass_no (c : Int) (w : World) (h0 : 0 ≤ c) (h1 : c ≤ 255) (h : clsB c = false) :
    Calls Try.prog 71 #[.int .u8 c] w fun e w' => e = .returned (.tuple #[.int .i64 0, .bool false]) ∧ w = w' := by
  have h : ¬ (97 ≤ c ∧ c ≤ 102) := by simpa [clsB] using h
  rcases (show c < 97 ∨ 102 < c by omega) with ha | ha
  all_goals
    go_enter Try.func71, Try.ntmps71
    go_wp2
    go_ret2
    exact ⟨rfl, rfl⟩

theorem lt_of_bt {s : ByteArray} {i : Nat} (h : bt s i ≠ 0) : i < s.size := by
  by_cases hx : i < s.size
  · exact hx
  · exact absurd (bt_out hx) h
theorem lt_of_cls {s : ByteArray} {i : Nat} (h : clsB (bt s i) = true) : i < s.size := lt_of_bt (by intro hx; rw [hx] at h; exact absurd h (by decide))
theorem lt_of_sim {s : ByteArray} {i : Nat} (h : simB (bt s i) = true) : i < s.size := lt_of_bt (by intro hx; rw [hx] at h; exact absurd h (by decide))
theorem lt_of_ter {s : ByteArray} {i : Nat} (h : terB (bt s i) = true) : i < s.size := lt_of_bt (by intro hx; rw [hx] at h; exact absurd h (by decide))
theorem lt_of_sgn {s : ByteArray} {i : Nat} (h : sgnB (bt s i) = true) : i < s.size := lt_of_bt (by intro hx; rw [hx] at h; exact absurd h (by decide))
theorem lt_of_tur {s : ByteArray} {i : Nat} (h : turB (bt s i) = true) : i < s.size := lt_of_bt (by intro hx; rw [hx] at h; exact absurd h (by decide))

/-- The place behind the expression that begins at i. -/
def exJ (s : ByteArray) (i : Nat) : Nat := if turB (bt s (i + 1)) then i + 2 else i + 1
theorem exJ_le {s : ByteArray} {i : Nat} (h : simB (bt s i) = true) : exJ s i ≤ s.size := by
  have h1 := lt_of_sim h
  unfold exJ; split
  · have := lt_of_tur (by assumption); omega
  · omega

theorem gcell {W w1 : World} {b : Nat} (hg : W.grownBy w1 (some b)) :
    (∀ bb o, bb < W.heap.size → bb ≠ b → w1.cell? ⟨bb, o, none⟩ = W.cell? ⟨bb, o, none⟩) ∧ (∀ bb o, bb < W.heap.size → bb ≠ b → w1.frozen? ⟨bb, o, none⟩ = W.frozen? ⟨bb, o, none⟩) :=
  ⟨fun bb o h hne => World.cell?_of_block (a := ⟨bb, o, none⟩) (hg.block bb h (by simpa using hne)), fun bb o h hne => World.frozen?_of_block (a := ⟨bb, o, none⟩) (hg.block bb h (by simpa using hne))⟩

theorem hid {p : Prop} (h : p) : Hid p := h

theorem res_ct {P : Program} {fn : Func} {p u : Tmp} {ty t : TypeId} (h : fn.results = #[.cell p ty, .tmp u]) {tmps : Array Value} {w : World} {g : Nat} {cs : Array Value} {d : TypeDesc} {v : Value}
    (hp : tmps.getD p undef = .pointer (some ⟨g, 0, none⟩)) (hg : w.heap[g]? = some (.cells cs t (0, 0)))
    (hu : P.underlying ty = some d) (hd : (match d with | .struct _ | .array _ _ => true | _ => false) = true) (hi : (P.info? ty).map (·.size) = some cs.size) (hv : tmps.getD u undef = v) :
    (results fn tmps).run P w = .ok (.tuple #[.agg cs, v]) w := by
  rw [results_cell_tmp h, hp, hv]
  simp [asAddr, run_loadVar_row w g t ty cs (0, 0) d hg hu hd hi]

/-- What a method of the reader leaves: its answer, the reader at a place, nothing else turned. -/
def RP (w : World) (b : Nat) (s : ByteArray) (v : Value) (j : Nat) (e : Ending) (w' : World) : Prop := e = .returned v ∧ Rd w' b s j ∧ w.grownBy w' (some b)


set_option maxHeartbeats 400000 in
theorem mark_yes (s : ByteArray) (b i : Nat) (w : World) (hB : s.size ≤ 400 ∧ i ≤ 400) (hr : Rd w b s i) (c : Int) (h : bt s i = c) : Calls Try.prog 90 #[.pointer (some ⟨b, 0, none⟩), .int .u8 c] w (RP w b s (.bool true) (i + 1)) := by
  obtain ⟨hs, hi⟩ := hB
  have c0 := hr.c0
  have c1 := hr.c1
  have cf := hr.fz
  have hb := bt_bd s i
  subst h
  go_enter Try.func90, Try.ntmps90
  go_wp2_with (go_at_call 97; refine (peek_any s b i _ hs hr).mono ?_; rintro e w' ⟨rfl, n, rfl⟩)
  go_ret
  exact ⟨rfl, (hr.drewN _).step, grown_set (grown_drewN (grown_refl _ _) _) (.inl rfl) _⟩

set_option maxHeartbeats 400000 in
theorem mark_no (s : ByteArray) (b i : Nat) (w : World) (hB : s.size ≤ 400 ∧ i ≤ 400) (hr : Rd w b s i) (c : Int) (h : ¬ bt s i = c) : Calls Try.prog 90 #[.pointer (some ⟨b, 0, none⟩), .int .u8 c] w (RP w b s (.bool false) i) := by
  have hs := hB.1
  have c0 := hr.c0
  have c1 := hr.c1
  have cf := hr.fz
  have hb := bt_bd s i
  have h2 : (bt s i != c) = true := by simp [h]
  go_enter Try.func90, Try.ntmps90
  go_wp2_with (go_at_call 97; refine (peek_any s b i _ hs hr).mono ?_; rintro e w' ⟨rfl, n, rfl⟩)
  go_ret
  exact ⟨rfl, hr.drewN _, grown_drewN (grown_refl _ _) _⟩

set_option maxHeartbeats 400000 in
theorem rdigit_yes (s : ByteArray) (b i : Nat) (w : World) (hB : s.size ≤ 400 ∧ i ≤ 400) (hr : Rd w b s i) (h : digB (bt s i) = true) : Calls Try.prog 89 #[.pointer (some ⟨b, 0, none⟩)] w (RP w b s (.tuple #[.int .i64 (bt s i - 48), .bool true]) (i + 1)) := by
  obtain ⟨hs, hi⟩ := hB
  have c0 := hr.c0
  have c1 := hr.c1
  have cf := hr.fz
  have hb := bt_bd s i
  go_enter Try.func89, Try.ntmps89
  go_wp2_with (first | (go_at_call 97; refine (peek_any s b i _ hs hr).mono ?_; rintro e w' ⟨rfl, n, rfl⟩) | (go_at_call 69; refine (cdigit_yes _ _ hb.1 hb.2 h).mono ?_; rintro e w' ⟨rfl, rfl⟩))
  go_ret2
  exact ⟨rfl, (hr.drewN _).step, grown_set (grown_drewN (grown_refl _ _) _) (.inl rfl) _⟩

set_option maxHeartbeats 400000 in
theorem rdigit_no (s : ByteArray) (b i : Nat) (w : World) (hB : s.size ≤ 400 ∧ i ≤ 400) (hr : Rd w b s i) (h : digB (bt s i) = false) : Calls Try.prog 89 #[.pointer (some ⟨b, 0, none⟩)] w (RP w b s (.tuple #[.int .i64 0, .bool false]) i) := by
  have hs := hB.1
  have c0 := hr.c0
  have c1 := hr.c1
  have cf := hr.fz
  have hb := bt_bd s i
  go_enter Try.func89, Try.ntmps89
  go_wp2_with (first | (go_at_call 97; refine (peek_any s b i _ hs hr).mono ?_; rintro e w' ⟨rfl, n, rfl⟩) | (go_at_call 69; refine (cdigit_no _ _ hb.1 hb.2 h).mono ?_; rintro e w' ⟨rfl, rfl⟩))
  go_ret2
  exact ⟨rfl, hr.drewN _, grown_drewN (grown_refl _ _) _⟩

set_option maxHeartbeats 400000 in
theorem rclass_yes (s : ByteArray) (b i : Nat) (w : World) (hB : s.size ≤ 400 ∧ i ≤ 400) (hr : Rd w b s i) (h : clsB (bt s i) = true) : Calls Try.prog 106 #[.pointer (some ⟨b, 0, none⟩)] w (RP w b s (.tuple #[.int .i64 (bt s i - 97), .bool true]) (i + 1)) := by
  obtain ⟨hs, hi⟩ := hB
  have c0 := hr.c0
  have c1 := hr.c1
  have cf := hr.fz
  have hb := bt_bd s i
  go_enter Try.func106, Try.ntmps106
  go_wp2_with (first | (go_at_call 97; refine (peek_any s b i _ hs hr).mono ?_; rintro e w' ⟨rfl, n, rfl⟩) | (go_at_call 71; refine (cclass_yes _ _ hb.1 hb.2 h).mono ?_; rintro e w' ⟨rfl, rfl⟩))
  go_ret2
  exact ⟨rfl, (hr.drewN _).step, grown_set (grown_drewN (grown_refl _ _) _) (.inl rfl) _⟩

set_option maxHeartbeats 400000 in
theorem rclass_no (s : ByteArray) (b i : Nat) (w : World) (hB : s.size ≤ 400 ∧ i ≤ 400) (hr : Rd w b s i) (h : clsB (bt s i) = false) : Calls Try.prog 106 #[.pointer (some ⟨b, 0, none⟩)] w (RP w b s (.tuple #[.int .i64 0, .bool false]) i) := by
  have hs := hB.1
  have c0 := hr.c0
  have c1 := hr.c1
  have cf := hr.fz
  have hb := bt_bd s i
  go_enter Try.func106, Try.ntmps106
  go_wp2_with (first | (go_at_call 97; refine (peek_any s b i _ hs hr).mono ?_; rintro e w' ⟨rfl, n, rfl⟩) | (go_at_call 71; refine (cclass_no _ _ hb.1 hb.2 h).mono ?_; rintro e w' ⟨rfl, rfl⟩))
  go_ret2
  exact ⟨rfl, hr.drewN _, grown_drewN (grown_refl _ _) _⟩

set_option maxHeartbeats 400000 in
theorem sign_yes (s : ByteArray) (b i : Nat) (w : World) (hB : s.size ≤ 400 ∧ i ≤ 400) (hr : Rd w b s i) (h : sgnB (bt s i) = true) : Calls Try.prog 109 #[.pointer (some ⟨b, 0, none⟩)] w (RP w b s (.tuple #[.int .u8 (bt s i), .bool true]) (i + 1)) := by
  obtain ⟨hs, hi⟩ := hB
  have c0 := hr.c0
  have c1 := hr.c1
  have cf := hr.fz
  have hb := bt_bd s i
  have hp := peek_any s b i w hs hr
  have h3 : bt s i = 60 ∨ bt s i = 61 ∨ bt s i = 35 := by simpa [sgnB, or_assoc] using h
  clear h
  generalize bt s i = p at *
  rcases h3 with rfl | rfl | rfl
  all_goals
    go_enter Try.func109, Try.ntmps109
    go_wp2_with (go_at_call 97; refine hp.mono ?_; rintro e w' ⟨rfl, n, rfl⟩)
    go_ret2
    exact ⟨rfl, (hr.drewN _).step, grown_set (grown_drewN (grown_refl _ _) _) (.inl rfl) _⟩

set_option maxHeartbeats 400000 in
theorem sign_no (s : ByteArray) (b i : Nat) (w : World) (hB : s.size ≤ 400 ∧ i ≤ 400) (hr : Rd w b s i) (h : sgnB (bt s i) = false) : Calls Try.prog 109 #[.pointer (some ⟨b, 0, none⟩)] w (RP w b s (.tuple #[.int .u8 0, .bool false]) i) := by
  have hs := hB.1
  have c0 := hr.c0
  have c1 := hr.c1
  have cf := hr.fz
  have hb := bt_bd s i
  have h3 : (bt s i != 60) = true ∧ (bt s i != 61) = true ∧ (bt s i != 35) = true := by simpa [sgnB, and_assoc] using h
  obtain ⟨k1, k2, k3⟩ := h3
  clear h
  go_enter Try.func109, Try.ntmps109
  go_wp2_with (go_at_call 97; refine (peek_any s b i _ hs hr).mono ?_; rintro e w' ⟨rfl, n, rfl⟩)
  go_ret2
  exact ⟨rfl, hr.drewN _, grown_drewN (grown_refl _ _) _⟩


end Go.Proofs.Ythlhbjnkohinmaa
