/- The reader's condition and action: by which of their methods each goes; the outcome of each as a function of the text and the place. (Written by program: wip/tools/mk_rd4.py.) -/
import Derived.Test.YthlhbjnkohinmaaRd3
namespace Go.Proofs.Ythlhbjnkohinmaa
open Go.RowKit

/-- A condition as the program keeps it. -/
structure Cd where
  k : Int
  c : Int
  g : Int
  a1 : Int
  a2 : Int
  b1 : Int
  b2 : Int

/-- An action as the program keeps it. -/
structure Ac where
  k : Int
  c : Int
  a1 : Int
  a2 : Int
  a3 : Int
  b1 : Int
  b2 : Int
  b3 : Int

abbrev Cd.arr (x : Cd) : Array Value := #[.int .i64 x.k, .int .i64 x.c, .int .u8 x.g, .int .i64 x.a1, .int .i64 x.a2, .int .i64 x.b1, .int .i64 x.b2]
abbrev Ac.arr (x : Ac) : Array Value := #[.int .i64 x.k, .int .i64 x.c, .int .i64 x.a1, .int .i64 x.a2, .int .i64 x.a3, .int .i64 x.b1, .int .i64 x.b2, .int .i64 x.b3]


set_option maxHeartbeats 800000 in
theorem cond_neg (s : ByteArray) (b i : Nat) (w : World) (hB : s.size ≤ 400 ∧ i ≤ 400) (hr : Rd w b s i) (h : bt s i = 33) (x0 x1 x2 x3 x4 x5 x6 : Int) (ok : Bool) (j : Nat) (hp : ∀ W, Rd W b s (i + 1) → Calls Try.prog 102 #[.pointer (some ⟨b, 0, none⟩), .int .i64 2] W (RP W b s (.tuple #[.agg #[.int .i64 x0, .int .i64 x1, .int .u8 x2, .int .i64 x3, .int .i64 x4, .int .i64 x5, .int .i64 x6], .bool ok]) j)) : Calls Try.prog 98 #[.pointer (some ⟨b, 0, none⟩)] w (RP w b s (.tuple #[.agg #[.int .i64 x0, .int .i64 x1, .int .u8 x2, .int .i64 x3, .int .i64 x4, .int .i64 x5, .int .i64 x6], .bool ok]) (j)) := by
  have hl := hr.lt
  have hne : w.heap.size ≠ b := by omega
  have hs := hB.1
  have H : Hid (bt s i = 33) := h
  clear h
  go_enter Try.func98, Try.ntmps98
  go_wp2_with fail
  go_at_call 90
  refine (mark_yes s b i _ hB (hr.alloc _) 33 H.out).mono ?_
  rintro e w1 ⟨rfl, hr1, hg1⟩
  obtain ⟨hc1, hf1⟩ := gcell hg1
  have hn1 : w1.heap.size ≠ b := by have := hr1.lt; omega
  have hzw1 : w.heap.size < w1.heap.size := by have := hg1.size; (try simp at this); omega
  have hyw1 : w.heap.size ≤ w1.heap.size := Nat.le_of_lt hzw1
  have hxw1 : w.heap.size ≠ w1.heap.size := Nat.ne_of_lt hzw1
  have hk1 := hid ((hg1.block w.heap.size (by simp) (by simp; omega)).trans (heap_alloc_new w _))
  go_wp2_with fail
  go_at_call 102
  refine (hp _ (by repeat' (first | (with_reducible assumption) | (with_reducible refine Rd.alloc ?_ _) | (with_reducible refine Rd.drewN ?_ _) | (with_reducible refine Rd.step ?_) | (with_reducible refine Rd.other ?_ ?_ _) | (simp; omega)))).mono ?_
  rintro e w2 ⟨rfl, hr2, hg2⟩
  obtain ⟨hc2, hf2⟩ := gcell hg2
  have hn2 : w2.heap.size ≠ b := by have := hr2.lt; omega
  have hzw2 : w.heap.size < w2.heap.size := by have := hg2.size; (try simp at this); omega
  have hyw2 : w.heap.size ≤ w2.heap.size := Nat.le_of_lt hzw2
  have hxw2 : w.heap.size ≠ w2.heap.size := Nat.ne_of_lt hzw2
  have hk2 := hid ((hg2.block w.heap.size (by (try simp); omega) (by simp; omega)).trans hk1.out)
  go_wp2
  refine bodyPost_ret (v := .tuple #[.agg #[.int .i64 x0, .int .i64 x1, .int .u8 x2, .int .i64 x3, .int .i64 x4, .int .i64 x5, .int .i64 x6], .bool ok]) (res_ct Try.results98 rfl (Go.heap_setCell_same _ _ 6 _ _ _ (Go.heap_setCell_same _ _ 5 _ _ _ (Go.heap_setCell_same _ _ 4 _ _ _ (Go.heap_setCell_same _ _ 3 _ _ _ (Go.heap_setCell_same _ _ 2 _ _ _ (Go.heap_setCell_same _ _ 1 _ _ _ (Go.heap_setCell_same _ _ 0 _ _ _ hk2.out))))))) Try.underlying163 rfl (by kernel_rfl) rfl) rfl ⟨rfl, ?_, ?_⟩
  · repeat' (first | (with_reducible assumption) | (with_reducible refine Rd.alloc ?_ _) | (with_reducible refine Rd.drewN ?_ _) | (with_reducible refine Rd.step ?_) | (with_reducible refine Rd.other ?_ ?_ _) | (simp; omega))
  · repeat' (first | (with_reducible assumption) | (with_reducible exact grown_refl _ _) | (with_reducible refine grown_set ?_ ?_ _) | (with_reducible refine grown_alloc ?_ _) | (with_reducible refine grown_drewN ?_ _) | (with_reducible refine grown_trans ?_ (by assumption)) | (right; simp; done) | (right; simp; omega) | (left; rfl))

set_option maxHeartbeats 800000 in
theorem cond_pat (s : ByteArray) (b i : Nat) (w : World) (hB : s.size ≤ 400 ∧ i ≤ 400) (hr : Rd w b s i) (h : ¬ bt s i = 33) (h1 : clsB (bt s i) = true) (x0 x1 x2 x3 x4 x5 x6 : Int) (ok : Bool) (j : Nat) (hp : ∀ W, Rd W b s (i) → Calls Try.prog 102 #[.pointer (some ⟨b, 0, none⟩), .int .i64 1] W (RP W b s (.tuple #[.agg #[.int .i64 x0, .int .i64 x1, .int .u8 x2, .int .i64 x3, .int .i64 x4, .int .i64 x5, .int .i64 x6], .bool ok]) j)) : Calls Try.prog 98 #[.pointer (some ⟨b, 0, none⟩)] w (RP w b s (.tuple #[.agg #[.int .i64 x0, .int .i64 x1, .int .u8 x2, .int .i64 x3, .int .i64 x4, .int .i64 x5, .int .i64 x6], .bool ok]) (j)) := by
  have hl := hr.lt
  have hne : w.heap.size ≠ b := by omega
  have hs := hB.1
  have H : Hid (¬ bt s i = 33) := h
  clear h
  have hb := bt_bd s i
  go_enter Try.func98, Try.ntmps98
  go_wp2_with fail
  go_at_call 90
  refine (mark_no s b i _ hB (hr.alloc _) 33 H.out).mono ?_
  rintro e w1 ⟨rfl, hr1, hg1⟩
  obtain ⟨hc1, hf1⟩ := gcell hg1
  have hn1 : w1.heap.size ≠ b := by have := hr1.lt; omega
  have hzw1 : w.heap.size < w1.heap.size := by have := hg1.size; (try simp at this); omega
  have hyw1 : w.heap.size ≤ w1.heap.size := Nat.le_of_lt hzw1
  have hxw1 : w.heap.size ≠ w1.heap.size := Nat.ne_of_lt hzw1
  have hk1 := hid ((hg1.block w.heap.size (by simp) (by simp; omega)).trans (heap_alloc_new w _))
  go_wp2_with fail
  go_at_call 97
  refine (peek_any s b i _ hs hr1).mono ?_
  rintro e w' ⟨rfl, n, rfl⟩
  go_wp2_with fail
  go_at_call 71
  refine (cclass_yes _ _ hb.1 hb.2 h1).mono ?_
  rintro e w' ⟨rfl, rfl⟩
  go_wp2_with fail
  go_at_call 102
  refine (hp _ (by repeat' (first | (with_reducible assumption) | (with_reducible refine Rd.alloc ?_ _) | (with_reducible refine Rd.drewN ?_ _) | (with_reducible refine Rd.step ?_) | (with_reducible refine Rd.other ?_ ?_ _) | (simp; omega)))).mono ?_
  rintro e w2 ⟨rfl, hr2, hg2⟩
  replace hg2 := grown_undrew hg2
  obtain ⟨hc2, hf2⟩ := gcell hg2
  have hn2 : w2.heap.size ≠ b := by have := hr2.lt; omega
  have hzw2 : w.heap.size < w2.heap.size := by have := hg2.size; (try simp at this); omega
  have hyw2 : w.heap.size ≤ w2.heap.size := Nat.le_of_lt hzw2
  have hxw2 : w.heap.size ≠ w2.heap.size := Nat.ne_of_lt hzw2
  have hk2 := hid ((hg2.block w.heap.size (by (try simp); omega) (by simp; omega)).trans hk1.out)
  go_wp2
  refine bodyPost_ret (v := .tuple #[.agg #[.int .i64 x0, .int .i64 x1, .int .u8 x2, .int .i64 x3, .int .i64 x4, .int .i64 x5, .int .i64 x6], .bool ok]) (res_ct Try.results98 rfl (Go.heap_setCell_same _ _ 6 _ _ _ (Go.heap_setCell_same _ _ 5 _ _ _ (Go.heap_setCell_same _ _ 4 _ _ _ (Go.heap_setCell_same _ _ 3 _ _ _ (Go.heap_setCell_same _ _ 2 _ _ _ (Go.heap_setCell_same _ _ 1 _ _ _ (Go.heap_setCell_same _ _ 0 _ _ _ hk2.out))))))) Try.underlying163 rfl (by kernel_rfl) rfl) rfl ⟨rfl, ?_, ?_⟩
  · repeat' (first | (with_reducible assumption) | (with_reducible refine Rd.alloc ?_ _) | (with_reducible refine Rd.drewN ?_ _) | (with_reducible refine Rd.step ?_) | (with_reducible refine Rd.other ?_ ?_ _) | (simp; omega))
  · repeat' (first | (with_reducible assumption) | (with_reducible exact grown_refl _ _) | (with_reducible refine grown_set ?_ ?_ _) | (with_reducible refine grown_alloc ?_ _) | (with_reducible refine grown_drewN ?_ _) | (with_reducible refine grown_trans ?_ (by assumption)) | (right; simp; done) | (right; simp; omega) | (left; rfl))

set_option maxHeartbeats 800000 in
theorem cond_test (s : ByteArray) (b i : Nat) (w : World) (hB : s.size ≤ 400 ∧ i ≤ 400) (hr : Rd w b s i) (h : ¬ bt s i = 33) (h1 : clsB (bt s i) = false) (x0 x1 x2 x3 x4 x5 x6 : Int) (ok : Bool) (j : Nat) (hp : ∀ W, Rd W b s (i) → Calls Try.prog 103 #[.pointer (some ⟨b, 0, none⟩)] W (RP W b s (.tuple #[.agg #[.int .i64 x0, .int .i64 x1, .int .u8 x2, .int .i64 x3, .int .i64 x4, .int .i64 x5, .int .i64 x6], .bool ok]) j)) : Calls Try.prog 98 #[.pointer (some ⟨b, 0, none⟩)] w (RP w b s (.tuple #[.agg #[.int .i64 x0, .int .i64 x1, .int .u8 x2, .int .i64 x3, .int .i64 x4, .int .i64 x5, .int .i64 x6], .bool ok]) (j)) := by
  have hl := hr.lt
  have hne : w.heap.size ≠ b := by omega
  have hs := hB.1
  have H : Hid (¬ bt s i = 33) := h
  clear h
  have hb := bt_bd s i
  go_enter Try.func98, Try.ntmps98
  go_wp2_with fail
  go_at_call 90
  refine (mark_no s b i _ hB (hr.alloc _) 33 H.out).mono ?_
  rintro e w1 ⟨rfl, hr1, hg1⟩
  obtain ⟨hc1, hf1⟩ := gcell hg1
  have hn1 : w1.heap.size ≠ b := by have := hr1.lt; omega
  have hzw1 : w.heap.size < w1.heap.size := by have := hg1.size; (try simp at this); omega
  have hyw1 : w.heap.size ≤ w1.heap.size := Nat.le_of_lt hzw1
  have hxw1 : w.heap.size ≠ w1.heap.size := Nat.ne_of_lt hzw1
  have hk1 := hid ((hg1.block w.heap.size (by simp) (by simp; omega)).trans (heap_alloc_new w _))
  go_wp2_with fail
  go_at_call 97
  refine (peek_any s b i _ hs hr1).mono ?_
  rintro e w' ⟨rfl, n, rfl⟩
  go_wp2_with fail
  go_at_call 71
  refine (cclass_no _ _ hb.1 hb.2 h1).mono ?_
  rintro e w' ⟨rfl, rfl⟩
  go_wp2_with fail
  go_at_call 103
  refine (hp _ (by repeat' (first | (with_reducible assumption) | (with_reducible refine Rd.alloc ?_ _) | (with_reducible refine Rd.drewN ?_ _) | (with_reducible refine Rd.step ?_) | (with_reducible refine Rd.other ?_ ?_ _) | (simp; omega)))).mono ?_
  rintro e w2 ⟨rfl, hr2, hg2⟩
  replace hg2 := grown_undrew hg2
  obtain ⟨hc2, hf2⟩ := gcell hg2
  have hn2 : w2.heap.size ≠ b := by have := hr2.lt; omega
  have hzw2 : w.heap.size < w2.heap.size := by have := hg2.size; (try simp at this); omega
  have hyw2 : w.heap.size ≤ w2.heap.size := Nat.le_of_lt hzw2
  have hxw2 : w.heap.size ≠ w2.heap.size := Nat.ne_of_lt hzw2
  have hk2 := hid ((hg2.block w.heap.size (by (try simp); omega) (by simp; omega)).trans hk1.out)
  go_wp2
  refine bodyPost_ret (v := .tuple #[.agg #[.int .i64 x0, .int .i64 x1, .int .u8 x2, .int .i64 x3, .int .i64 x4, .int .i64 x5, .int .i64 x6], .bool ok]) (res_ct Try.results98 rfl (Go.heap_setCell_same _ _ 6 _ _ _ (Go.heap_setCell_same _ _ 5 _ _ _ (Go.heap_setCell_same _ _ 4 _ _ _ (Go.heap_setCell_same _ _ 3 _ _ _ (Go.heap_setCell_same _ _ 2 _ _ _ (Go.heap_setCell_same _ _ 1 _ _ _ (Go.heap_setCell_same _ _ 0 _ _ _ hk2.out))))))) Try.underlying163 rfl (by kernel_rfl) rfl) rfl ⟨rfl, ?_, ?_⟩
  · repeat' (first | (with_reducible assumption) | (with_reducible refine Rd.alloc ?_ _) | (with_reducible refine Rd.drewN ?_ _) | (with_reducible refine Rd.step ?_) | (with_reducible refine Rd.other ?_ ?_ _) | (simp; omega))
  · repeat' (first | (with_reducible assumption) | (with_reducible exact grown_refl _ _) | (with_reducible refine grown_set ?_ ?_ _) | (with_reducible refine grown_alloc ?_ _) | (with_reducible refine grown_drewN ?_ _) | (with_reducible refine grown_trans ?_ (by assumption)) | (right; simp; done) | (right; simp; omega) | (left; rfl))

set_option maxHeartbeats 800000 in
theorem act_fill (s : ByteArray) (b i : Nat) (w : World) (hB : s.size ≤ 400 ∧ i ≤ 400) (hr : Rd w b s i) (h : bt s i = 43) (x0 x1 x2 x3 x4 x5 x6 x7 : Int) (ok : Bool) (j : Nat) (hp : ∀ W, Rd W b s (i + 1) → Calls Try.prog 104 #[.pointer (some ⟨b, 0, none⟩)] W (RP W b s (.tuple #[.agg #[.int .i64 x0, .int .i64 x1, .int .i64 x2, .int .i64 x3, .int .i64 x4, .int .i64 x5, .int .i64 x6, .int .i64 x7], .bool ok]) j)) : Calls Try.prog 99 #[.pointer (some ⟨b, 0, none⟩)] w (RP w b s (.tuple #[.agg #[.int .i64 x0, .int .i64 x1, .int .i64 x2, .int .i64 x3, .int .i64 x4, .int .i64 x5, .int .i64 x6, .int .i64 x7], .bool ok]) (j)) := by
  have hl := hr.lt
  have hne : w.heap.size ≠ b := by omega
  have hs := hB.1
  have H : Hid (bt s i = 43) := h
  clear h
  go_enter Try.func99, Try.ntmps99
  go_wp2_with fail
  go_at_call 90
  refine (mark_yes s b i _ hB (hr.alloc _) 43 H.out).mono ?_
  rintro e w1 ⟨rfl, hr1, hg1⟩
  obtain ⟨hc1, hf1⟩ := gcell hg1
  have hn1 : w1.heap.size ≠ b := by have := hr1.lt; omega
  have hzw1 : w.heap.size < w1.heap.size := by have := hg1.size; (try simp at this); omega
  have hyw1 : w.heap.size ≤ w1.heap.size := Nat.le_of_lt hzw1
  have hxw1 : w.heap.size ≠ w1.heap.size := Nat.ne_of_lt hzw1
  have hk1 := hid ((hg1.block w.heap.size (by simp) (by simp; omega)).trans (heap_alloc_new w _))
  go_wp2_with fail
  go_at_call 104
  refine (hp _ (by repeat' (first | (with_reducible assumption) | (with_reducible refine Rd.alloc ?_ _) | (with_reducible refine Rd.drewN ?_ _) | (with_reducible refine Rd.step ?_) | (with_reducible refine Rd.other ?_ ?_ _) | (simp; omega)))).mono ?_
  rintro e w2 ⟨rfl, hr2, hg2⟩
  obtain ⟨hc2, hf2⟩ := gcell hg2
  have hn2 : w2.heap.size ≠ b := by have := hr2.lt; omega
  have hzw2 : w.heap.size < w2.heap.size := by have := hg2.size; (try simp at this); omega
  have hyw2 : w.heap.size ≤ w2.heap.size := Nat.le_of_lt hzw2
  have hxw2 : w.heap.size ≠ w2.heap.size := Nat.ne_of_lt hzw2
  have hk2 := hid ((hg2.block w.heap.size (by (try simp); omega) (by simp; omega)).trans hk1.out)
  go_wp2
  refine bodyPost_ret (v := .tuple #[.agg #[.int .i64 x0, .int .i64 x1, .int .i64 x2, .int .i64 x3, .int .i64 x4, .int .i64 x5, .int .i64 x6, .int .i64 x7], .bool ok]) (res_ct Try.results99 rfl (Go.heap_setCell_same _ _ 7 _ _ _ (Go.heap_setCell_same _ _ 6 _ _ _ (Go.heap_setCell_same _ _ 5 _ _ _ (Go.heap_setCell_same _ _ 4 _ _ _ (Go.heap_setCell_same _ _ 3 _ _ _ (Go.heap_setCell_same _ _ 2 _ _ _ (Go.heap_setCell_same _ _ 1 _ _ _ (Go.heap_setCell_same _ _ 0 _ _ _ hk2.out)))))))) Try.underlying175 rfl (by kernel_rfl) rfl) rfl ⟨rfl, ?_, ?_⟩
  · repeat' (first | (with_reducible assumption) | (with_reducible refine Rd.alloc ?_ _) | (with_reducible refine Rd.drewN ?_ _) | (with_reducible refine Rd.step ?_) | (with_reducible refine Rd.other ?_ ?_ _) | (simp; omega))
  · repeat' (first | (with_reducible assumption) | (with_reducible exact grown_refl _ _) | (with_reducible refine grown_set ?_ ?_ _) | (with_reducible refine grown_alloc ?_ _) | (with_reducible refine grown_drewN ?_ _) | (with_reducible refine grown_trans ?_ (by assumption)) | (right; simp; done) | (right; simp; omega) | (left; rfl))

set_option maxHeartbeats 800000 in
theorem act_empty (s : ByteArray) (b i : Nat) (w : World) (hB : s.size ≤ 400 ∧ i ≤ 400) (hr : Rd w b s i) (h : bt s i = 45) (x0 x1 x2 x3 x4 x5 x6 x7 : Int) (ok : Bool) (j : Nat) (hp : ∀ W, Rd W b s (i + 1) → Calls Try.prog 105 #[.pointer (some ⟨b, 0, none⟩)] W (RP W b s (.tuple #[.agg #[.int .i64 x0, .int .i64 x1, .int .i64 x2, .int .i64 x3, .int .i64 x4, .int .i64 x5, .int .i64 x6, .int .i64 x7], .bool ok]) j)) : Calls Try.prog 99 #[.pointer (some ⟨b, 0, none⟩)] w (RP w b s (.tuple #[.agg #[.int .i64 x0, .int .i64 x1, .int .i64 x2, .int .i64 x3, .int .i64 x4, .int .i64 x5, .int .i64 x6, .int .i64 x7], .bool ok]) (j)) := by
  have hl := hr.lt
  have hne : w.heap.size ≠ b := by omega
  have hs := hB.1
  have H : Hid (bt s i = 45) := h
  have H1 : Hid (¬ bt s i = 43) := by intro hx; omega
  clear h
  go_enter Try.func99, Try.ntmps99
  go_wp2_with fail
  go_at_call 90
  refine (mark_no s b i _ hB (hr.alloc _) 43 H1.out).mono ?_
  rintro e w1 ⟨rfl, hr1, hg1⟩
  obtain ⟨hc1, hf1⟩ := gcell hg1
  have hn1 : w1.heap.size ≠ b := by have := hr1.lt; omega
  have hzw1 : w.heap.size < w1.heap.size := by have := hg1.size; (try simp at this); omega
  have hyw1 : w.heap.size ≤ w1.heap.size := Nat.le_of_lt hzw1
  have hxw1 : w.heap.size ≠ w1.heap.size := Nat.ne_of_lt hzw1
  have hk1 := hid ((hg1.block w.heap.size (by simp) (by simp; omega)).trans (heap_alloc_new w _))
  go_wp2_with fail
  go_at_call 90
  refine (mark_yes s b i _ hB (by repeat' (first | (with_reducible assumption) | (with_reducible refine Rd.alloc ?_ _) | (with_reducible refine Rd.drewN ?_ _) | (with_reducible refine Rd.step ?_) | (with_reducible refine Rd.other ?_ ?_ _) | (simp; omega))) 45 H.out).mono ?_
  rintro e w2 ⟨rfl, hr2, hg2⟩
  obtain ⟨hc2, hf2⟩ := gcell hg2
  have hn2 : w2.heap.size ≠ b := by have := hr2.lt; omega
  have hzw2 : w.heap.size < w2.heap.size := by have := hg2.size; (try simp at this); omega
  have hyw2 : w.heap.size ≤ w2.heap.size := Nat.le_of_lt hzw2
  have hxw2 : w.heap.size ≠ w2.heap.size := Nat.ne_of_lt hzw2
  have hk2 := hid ((hg2.block w.heap.size (by (try simp); omega) (by simp; omega)).trans hk1.out)
  go_wp2_with fail
  go_at_call 105
  refine (hp _ (by repeat' (first | (with_reducible assumption) | (with_reducible refine Rd.alloc ?_ _) | (with_reducible refine Rd.drewN ?_ _) | (with_reducible refine Rd.step ?_) | (with_reducible refine Rd.other ?_ ?_ _) | (simp; omega)))).mono ?_
  rintro e w3 ⟨rfl, hr3, hg3⟩
  obtain ⟨hc3, hf3⟩ := gcell hg3
  have hn3 : w3.heap.size ≠ b := by have := hr3.lt; omega
  have hzw3 : w.heap.size < w3.heap.size := by have := hg3.size; (try simp at this); omega
  have hyw3 : w.heap.size ≤ w3.heap.size := Nat.le_of_lt hzw3
  have hxw3 : w.heap.size ≠ w3.heap.size := Nat.ne_of_lt hzw3
  have hk3 := hid ((hg3.block w.heap.size (by (try simp); omega) (by simp; omega)).trans hk2.out)
  go_wp2
  refine bodyPost_ret (v := .tuple #[.agg #[.int .i64 x0, .int .i64 x1, .int .i64 x2, .int .i64 x3, .int .i64 x4, .int .i64 x5, .int .i64 x6, .int .i64 x7], .bool ok]) (res_ct Try.results99 rfl (Go.heap_setCell_same _ _ 7 _ _ _ (Go.heap_setCell_same _ _ 6 _ _ _ (Go.heap_setCell_same _ _ 5 _ _ _ (Go.heap_setCell_same _ _ 4 _ _ _ (Go.heap_setCell_same _ _ 3 _ _ _ (Go.heap_setCell_same _ _ 2 _ _ _ (Go.heap_setCell_same _ _ 1 _ _ _ (Go.heap_setCell_same _ _ 0 _ _ _ hk3.out)))))))) Try.underlying175 rfl (by kernel_rfl) rfl) rfl ⟨rfl, ?_, ?_⟩
  · repeat' (first | (with_reducible assumption) | (with_reducible refine Rd.alloc ?_ _) | (with_reducible refine Rd.drewN ?_ _) | (with_reducible refine Rd.step ?_) | (with_reducible refine Rd.other ?_ ?_ _) | (simp; omega))
  · repeat' (first | (with_reducible assumption) | (with_reducible exact grown_refl _ _) | (with_reducible refine grown_set ?_ ?_ _) | (with_reducible refine grown_alloc ?_ _) | (with_reducible refine grown_drewN ?_ _) | (with_reducible refine grown_trans ?_ (by assumption)) | (right; simp; done) | (right; simp; omega) | (left; rfl))

set_option maxHeartbeats 800000 in
theorem act_halt (s : ByteArray) (b i : Nat) (w : World) (hB : s.size ≤ 400 ∧ i ≤ 400) (hr : Rd w b s i) (h : bt s i = 46) : Calls Try.prog 99 #[.pointer (some ⟨b, 0, none⟩)] w (RP w b s (.tuple #[.agg #[.int .i64 3, .int .i64 0, .int .i64 0, .int .i64 0, .int .i64 0, .int .i64 0, .int .i64 0, .int .i64 0], .bool true]) (i + 1)) := by
  have hl := hr.lt
  have hne : w.heap.size ≠ b := by omega
  have hs := hB.1
  have H : Hid (bt s i = 46) := h
  have H1 : Hid (¬ bt s i = 43) := by intro hx; omega
  have H2 : Hid (¬ bt s i = 45) := by intro hx; omega
  clear h
  go_enter Try.func99, Try.ntmps99
  go_wp2_with fail
  go_at_call 90
  refine (mark_no s b i _ hB (hr.alloc _) 43 H1.out).mono ?_
  rintro e w1 ⟨rfl, hr1, hg1⟩
  obtain ⟨hc1, hf1⟩ := gcell hg1
  have hn1 : w1.heap.size ≠ b := by have := hr1.lt; omega
  have hzw1 : w.heap.size < w1.heap.size := by have := hg1.size; (try simp at this); omega
  have hyw1 : w.heap.size ≤ w1.heap.size := Nat.le_of_lt hzw1
  have hxw1 : w.heap.size ≠ w1.heap.size := Nat.ne_of_lt hzw1
  have hk1 := hid ((hg1.block w.heap.size (by simp) (by simp; omega)).trans (heap_alloc_new w _))
  go_wp2_with fail
  go_at_call 90
  refine (mark_no s b i _ hB (by repeat' (first | (with_reducible assumption) | (with_reducible refine Rd.alloc ?_ _) | (with_reducible refine Rd.drewN ?_ _) | (with_reducible refine Rd.step ?_) | (with_reducible refine Rd.other ?_ ?_ _) | (simp; omega))) 45 H2.out).mono ?_
  rintro e w2 ⟨rfl, hr2, hg2⟩
  obtain ⟨hc2, hf2⟩ := gcell hg2
  have hn2 : w2.heap.size ≠ b := by have := hr2.lt; omega
  have hzw2 : w.heap.size < w2.heap.size := by have := hg2.size; (try simp at this); omega
  have hyw2 : w.heap.size ≤ w2.heap.size := Nat.le_of_lt hzw2
  have hxw2 : w.heap.size ≠ w2.heap.size := Nat.ne_of_lt hzw2
  have hk2 := hid ((hg2.block w.heap.size (by (try simp); omega) (by simp; omega)).trans hk1.out)
  go_wp2_with fail
  go_at_call 90
  refine (mark_yes s b i _ hB (by repeat' (first | (with_reducible assumption) | (with_reducible refine Rd.alloc ?_ _) | (with_reducible refine Rd.drewN ?_ _) | (with_reducible refine Rd.step ?_) | (with_reducible refine Rd.other ?_ ?_ _) | (simp; omega))) 46 H.out).mono ?_
  rintro e w3 ⟨rfl, hr3, hg3⟩
  obtain ⟨hc3, hf3⟩ := gcell hg3
  have hn3 : w3.heap.size ≠ b := by have := hr3.lt; omega
  have hzw3 : w.heap.size < w3.heap.size := by have := hg3.size; (try simp at this); omega
  have hyw3 : w.heap.size ≤ w3.heap.size := Nat.le_of_lt hzw3
  have hxw3 : w.heap.size ≠ w3.heap.size := Nat.ne_of_lt hzw3
  have hk3 := hid ((hg3.block w.heap.size (by (try simp); omega) (by simp; omega)).trans hk2.out)
  go_wp2
  refine bodyPost_ret (v := .tuple #[.agg #[.int .i64 3, .int .i64 0, .int .i64 0, .int .i64 0, .int .i64 0, .int .i64 0, .int .i64 0, .int .i64 0], .bool true]) (res_ct Try.results99 rfl (Go.heap_setCell_same _ _ 7 _ _ _ (Go.heap_setCell_same _ _ 6 _ _ _ (Go.heap_setCell_same _ _ 5 _ _ _ (Go.heap_setCell_same _ _ 4 _ _ _ (Go.heap_setCell_same _ _ 3 _ _ _ (Go.heap_setCell_same _ _ 2 _ _ _ (Go.heap_setCell_same _ _ 1 _ _ _ (Go.heap_setCell_same _ _ 0 _ _ _ hk3.out)))))))) Try.underlying175 rfl (by kernel_rfl) rfl) rfl ⟨rfl, ?_, ?_⟩
  · repeat' (first | (with_reducible assumption) | (with_reducible refine Rd.alloc ?_ _) | (with_reducible refine Rd.drewN ?_ _) | (with_reducible refine Rd.step ?_) | (with_reducible refine Rd.other ?_ ?_ _) | (simp; omega))
  · repeat' (first | (with_reducible assumption) | (with_reducible exact grown_refl _ _) | (with_reducible refine grown_set ?_ ?_ _) | (with_reducible refine grown_alloc ?_ _) | (with_reducible refine grown_drewN ?_ _) | (with_reducible refine grown_trans ?_ (by assumption)) | (right; simp; done) | (right; simp; omega) | (left; rfl))

set_option maxHeartbeats 800000 in
theorem act_none (s : ByteArray) (b i : Nat) (w : World) (hB : s.size ≤ 400 ∧ i ≤ 400) (hr : Rd w b s i) (h0 : ¬ bt s i = 43) (h1 : ¬ bt s i = 45) (h2 : ¬ bt s i = 46) : Calls Try.prog 99 #[.pointer (some ⟨b, 0, none⟩)] w (RP w b s (.tuple #[.agg #[.int .i64 3, .int .i64 0, .int .i64 0, .int .i64 0, .int .i64 0, .int .i64 0, .int .i64 0, .int .i64 0], .bool false]) (i)) := by
  have hl := hr.lt
  have hne : w.heap.size ≠ b := by omega
  have hs := hB.1
  have H : Hid (¬ bt s i = 46) := h2
  have H1 : Hid (¬ bt s i = 43) := h0
  have H2 : Hid (¬ bt s i = 45) := h1
  clear h0 h1 h2
  go_enter Try.func99, Try.ntmps99
  go_wp2_with fail
  go_at_call 90
  refine (mark_no s b i _ hB (hr.alloc _) 43 H1.out).mono ?_
  rintro e w1 ⟨rfl, hr1, hg1⟩
  obtain ⟨hc1, hf1⟩ := gcell hg1
  have hn1 : w1.heap.size ≠ b := by have := hr1.lt; omega
  have hzw1 : w.heap.size < w1.heap.size := by have := hg1.size; (try simp at this); omega
  have hyw1 : w.heap.size ≤ w1.heap.size := Nat.le_of_lt hzw1
  have hxw1 : w.heap.size ≠ w1.heap.size := Nat.ne_of_lt hzw1
  have hk1 := hid ((hg1.block w.heap.size (by simp) (by simp; omega)).trans (heap_alloc_new w _))
  go_wp2_with fail
  go_at_call 90
  refine (mark_no s b i _ hB (by repeat' (first | (with_reducible assumption) | (with_reducible refine Rd.alloc ?_ _) | (with_reducible refine Rd.drewN ?_ _) | (with_reducible refine Rd.step ?_) | (with_reducible refine Rd.other ?_ ?_ _) | (simp; omega))) 45 H2.out).mono ?_
  rintro e w2 ⟨rfl, hr2, hg2⟩
  obtain ⟨hc2, hf2⟩ := gcell hg2
  have hn2 : w2.heap.size ≠ b := by have := hr2.lt; omega
  have hzw2 : w.heap.size < w2.heap.size := by have := hg2.size; (try simp at this); omega
  have hyw2 : w.heap.size ≤ w2.heap.size := Nat.le_of_lt hzw2
  have hxw2 : w.heap.size ≠ w2.heap.size := Nat.ne_of_lt hzw2
  have hk2 := hid ((hg2.block w.heap.size (by (try simp); omega) (by simp; omega)).trans hk1.out)
  go_wp2_with fail
  go_at_call 90
  refine (mark_no s b i _ hB (by repeat' (first | (with_reducible assumption) | (with_reducible refine Rd.alloc ?_ _) | (with_reducible refine Rd.drewN ?_ _) | (with_reducible refine Rd.step ?_) | (with_reducible refine Rd.other ?_ ?_ _) | (simp; omega))) 46 H.out).mono ?_
  rintro e w3 ⟨rfl, hr3, hg3⟩
  obtain ⟨hc3, hf3⟩ := gcell hg3
  have hn3 : w3.heap.size ≠ b := by have := hr3.lt; omega
  have hzw3 : w.heap.size < w3.heap.size := by have := hg3.size; (try simp at this); omega
  have hyw3 : w.heap.size ≤ w3.heap.size := Nat.le_of_lt hzw3
  have hxw3 : w.heap.size ≠ w3.heap.size := Nat.ne_of_lt hzw3
  have hk3 := hid ((hg3.block w.heap.size (by (try simp); omega) (by simp; omega)).trans hk2.out)
  go_wp2
  refine bodyPost_ret (v := .tuple #[.agg #[.int .i64 3, .int .i64 0, .int .i64 0, .int .i64 0, .int .i64 0, .int .i64 0, .int .i64 0, .int .i64 0], .bool false]) (res_ct Try.results99 rfl (Go.heap_setCell_same _ _ 7 _ _ _ (Go.heap_setCell_same _ _ 6 _ _ _ (Go.heap_setCell_same _ _ 5 _ _ _ (Go.heap_setCell_same _ _ 4 _ _ _ (Go.heap_setCell_same _ _ 3 _ _ _ (Go.heap_setCell_same _ _ 2 _ _ _ (Go.heap_setCell_same _ _ 1 _ _ _ (Go.heap_setCell_same _ _ 0 _ _ _ hk3.out)))))))) Try.underlying175 rfl (by kernel_rfl) rfl) rfl ⟨rfl, ?_, ?_⟩
  · repeat' (first | (with_reducible assumption) | (with_reducible refine Rd.alloc ?_ _) | (with_reducible refine Rd.drewN ?_ _) | (with_reducible refine Rd.step ?_) | (with_reducible refine Rd.other ?_ ?_ _) | (simp; omega))
  · repeat' (first | (with_reducible assumption) | (with_reducible exact grown_refl _ _) | (with_reducible refine grown_set ?_ ?_ _) | (with_reducible refine grown_alloc ?_ _) | (with_reducible refine grown_drewN ?_ _) | (with_reducible refine grown_trans ?_ (by assumption)) | (right; simp; done) | (right; simp; omega) | (left; rfl))


end Go.Proofs.Ythlhbjnkohinmaa
