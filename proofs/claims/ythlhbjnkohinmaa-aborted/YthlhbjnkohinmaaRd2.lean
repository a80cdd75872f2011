/- The reader's methods that build terms, expressions, conditions and actions. (Written by program: wip/tools/mk_rd2.py.) -/
import Derived.Test.YthlhbjnkohinmaaRd
namespace Go.Proofs.Ythlhbjnkohinmaa
open Go.RowKit


set_option maxHeartbeats 800000 in
theorem operand_yes (s : ByteArray) (b i : Nat) (w : World) (hB : s.size ≤ 400 ∧ i ≤ 400) (hr : Rd w b s i) (h : simB (bt s i) = true) : Calls Try.prog 108 #[.pointer (some ⟨b, 0, none⟩)] w (RP w b s (.tuple #[.agg #[.int .i64 (opK (bt s i)), .int .i64 (opV (bt s i))], .bool true]) (i + 1)) := by
  have hl := hr.lt
  have hne : w.heap.size ≠ b := by omega
  have hs := hB.1
  have hi := hB.2
  have hb := bt_bd s i
  by_cases hd : digB (bt s i) = true
  · have e2 : opK (bt s i) = 1 := by simp [opK, hd]
    have e3 : opV (bt s i) = bt s i - 48 := by simp [opV, hd]
    rw [e2, e3]
    clear e2 e3 h
    go_enter Try.func108, Try.ntmps108
    go_wp2_with fail
    go_at_call 89
    refine (rdigit_yes s b i _ hB (hr.alloc _) hd).mono ?_
    rintro e w1 ⟨rfl, hr1, hg1⟩
    obtain ⟨hc1, hf1⟩ := gcell hg1
    have hn1 : w1.heap.size ≠ b := by have := hr1.lt; omega
    have hzw1 : w.heap.size < w1.heap.size := by have := hg1.size; (try simp at this); omega
    have hyw1 : w.heap.size ≤ w1.heap.size := Nat.le_of_lt hzw1
    have hxw1 : w.heap.size ≠ w1.heap.size := Nat.ne_of_lt hzw1
    have hk1 := hid ((hg1.block w.heap.size (by simp) (by simp; omega)).trans (heap_alloc_new w _))
    go_wp2
    refine bodyPost_ret (v := .tuple #[.agg #[.int .i64 1, .int .i64 (bt s i - 48)], .bool true]) (res_ct Try.results108 rfl (Go.heap_setCell_same _ _ 1 _ _ _ (Go.heap_setCell_same _ _ 0 _ _ _ hk1.out)) Try.underlying161 rfl (by kernel_rfl) rfl) rfl ⟨rfl, ?_, ?_⟩
    · repeat' (first | (with_reducible assumption) | (with_reducible refine Rd.alloc ?_ _) | (with_reducible refine Rd.drewN ?_ _) | (with_reducible refine Rd.step ?_) | (with_reducible refine Rd.other ?_ ?_ _) | (simp; omega))
    · repeat' (first | (with_reducible assumption) | (with_reducible exact grown_refl _ _) | (with_reducible refine grown_set ?_ ?_ _) | (with_reducible refine grown_alloc ?_ _) | (with_reducible refine grown_drewN ?_ _) | (with_reducible refine grown_trans ?_ (by assumption)) | (right; simp; done) | (right; simp; omega) | (left; rfl))
  · have hd : digB (bt s i) = false := by simpa using hd
    have hl2 : letB (bt s i) = true := by simpa [simB, hd] using h
    have e2 : opK (bt s i) = 2 := by simp [opK, hd, hl2]
    have e3 : opV (bt s i) = bt s i - 119 := by simp [opV, hd, hl2]
    have hlt : 119 ≤ bt s i ∧ bt s i ≤ 122 := by simpa [letB] using hl2
    rw [e2, e3]
    clear e2 e3 h hl2
    obtain ⟨k1, k2⟩ := hlt
    go_enter Try.func108, Try.ntmps108
    go_wp2_with fail
    go_at_call 89
    refine (rdigit_no s b i _ hB (hr.alloc _) hd).mono ?_
    rintro e w1 ⟨rfl, hr1, hg1⟩
    obtain ⟨hc1, hf1⟩ := gcell hg1
    have hn1 : w1.heap.size ≠ b := by have := hr1.lt; omega
    have hzw1 : w.heap.size < w1.heap.size := by have := hg1.size; (try simp at this); omega
    have hyw1 : w.heap.size ≤ w1.heap.size := Nat.le_of_lt hzw1
    have hxw1 : w.heap.size ≠ w1.heap.size := Nat.ne_of_lt hzw1
    have hk1 := hid ((hg1.block w.heap.size (by simp) (by simp; omega)).trans (heap_alloc_new w _))
    have k3 := hr1.c1
    have k4 := hr1.fz
    have hkP := hid ((Below.heap_setCell w1 ⟨b, 1, none⟩ (.int .i64 ((i : Int) + 1)) w.heap.size hne).trans hk1.out)
    go_wp2_with fail
    go_at_call 97
    refine (peek_any s b i _ hs hr1).mono ?_
    rintro e w2 ⟨rfl, n, rfl⟩
    go_wp2
    refine bodyPost_ret (v := .tuple #[.agg #[.int .i64 2, .int .i64 (bt s i - 119)], .bool true]) (res_ct Try.results108 rfl (Go.heap_setCell_same _ _ 1 _ _ _ (Go.heap_setCell_same _ _ 0 _ _ _ hkP.out)) Try.underlying161 rfl (by kernel_rfl) rfl) rfl ⟨rfl, ?_, ?_⟩
    · repeat' (first | (with_reducible assumption) | (with_reducible refine Rd.alloc ?_ _) | (with_reducible refine Rd.drewN ?_ _) | (with_reducible refine Rd.step ?_) | (with_reducible refine Rd.other ?_ ?_ _) | (simp; omega))
    · repeat' (first | (with_reducible assumption) | (with_reducible exact grown_refl _ _) | (with_reducible refine grown_set ?_ ?_ _) | (with_reducible refine grown_alloc ?_ _) | (with_reducible refine grown_drewN ?_ _) | (with_reducible refine grown_trans ?_ (by assumption)) | (right; simp; done) | (right; simp; omega) | (left; rfl))

set_option maxHeartbeats 800000 in
theorem operand_no (s : ByteArray) (b i : Nat) (w : World) (hB : s.size ≤ 400 ∧ i ≤ 400) (hr : Rd w b s i) (h : simB (bt s i) = false) : Calls Try.prog 108 #[.pointer (some ⟨b, 0, none⟩)] w (RP w b s (.tuple #[.agg #[.int .i64 0, .int .i64 0], .bool false]) (i)) := by
  have hl := hr.lt
  have hne : w.heap.size ≠ b := by omega
  have hs := hB.1
  have hb := bt_bd s i
  have hd : digB (bt s i) = false := by cases hx : digB (bt s i) <;> simp_all [simB]
  have hl2 : ¬ (119 ≤ bt s i ∧ bt s i ≤ 122) := by simpa [simB, hd, letB] using h
  clear h
  rcases (show bt s i < 119 ∨ 122 < bt s i by omega) with hk | hk
  all_goals
    clear hl2
    go_enter Try.func108, Try.ntmps108
    go_wp2_with fail
    go_at_call 89
    refine (rdigit_no s b i _ hB (hr.alloc _) hd).mono ?_
    rintro e w1 ⟨rfl, hr1, hg1⟩
    obtain ⟨hc1, hf1⟩ := gcell hg1
    have hn1 : w1.heap.size ≠ b := by have := hr1.lt; omega
    have hzw1 : w.heap.size < w1.heap.size := by have := hg1.size; (try simp at this); omega
    have hyw1 : w.heap.size ≤ w1.heap.size := Nat.le_of_lt hzw1
    have hxw1 : w.heap.size ≠ w1.heap.size := Nat.ne_of_lt hzw1
    have hk1 := hid ((hg1.block w.heap.size (by simp) (by simp; omega)).trans (heap_alloc_new w _))
    have k3 := hr1.c1
    have k4 := hr1.fz
    go_wp2_with fail
    go_at_call 97
    refine (peek_any s b i _ hs hr1).mono ?_
    rintro e w2 ⟨rfl, n, rfl⟩
    go_wp2
    refine bodyPost_ret (v := .tuple #[.agg #[.int .i64 0, .int .i64 0], .bool false]) (res_ct Try.results108 rfl (Go.heap_setCell_same _ _ 1 _ _ _ (Go.heap_setCell_same _ _ 0 _ _ _ hk1.out)) Try.underlying161 rfl (by kernel_rfl) rfl) rfl ⟨rfl, ?_, ?_⟩
    · repeat' (first | (with_reducible assumption) | (with_reducible refine Rd.alloc ?_ _) | (with_reducible refine Rd.drewN ?_ _) | (with_reducible refine Rd.step ?_) | (with_reducible refine Rd.other ?_ ?_ _) | (simp; omega))
    · repeat' (first | (with_reducible assumption) | (with_reducible exact grown_refl _ _) | (with_reducible refine grown_set ?_ ?_ _) | (with_reducible refine grown_alloc ?_ _) | (with_reducible refine grown_drewN ?_ _) | (with_reducible refine grown_trans ?_ (by assumption)) | (right; simp; done) | (right; simp; omega) | (left; rfl))

set_option maxHeartbeats 800000 in
theorem term_yes (s : ByteArray) (b i : Nat) (w : World) (hB : s.size ≤ 400 ∧ i ≤ 400) (hr : Rd w b s i) (h : terB (bt s i) = true) : Calls Try.prog 107 #[.pointer (some ⟨b, 0, none⟩)] w (RP w b s (.tuple #[.agg #[.int .i64 (opK (bt s i)), .int .i64 (opV (bt s i))], .bool true]) (i + 1)) := by
  have hl := hr.lt
  have hne : w.heap.size ≠ b := by omega
  by_cases hd : bt s i = 95
  · have e2 : opK (bt s i) = 0 := by rw [hd]; rfl
    have e3 : opV (bt s i) = 0 := by rw [hd]; rfl
    rw [e2, e3]
    have H : Hid (bt s i = 95) := hd
    clear e2 e3 h hd
    go_enter Try.func107, Try.ntmps107
    go_wp2_with fail
    go_at_call 90
    refine (mark_yes s b i _ hB (hr.alloc _) 95 H.out).mono ?_
    rintro e w1 ⟨rfl, hr1, hg1⟩
    obtain ⟨hc1, hf1⟩ := gcell hg1
    have hn1 : w1.heap.size ≠ b := by have := hr1.lt; omega
    have hzw1 : w.heap.size < w1.heap.size := by have := hg1.size; (try simp at this); omega
    have hyw1 : w.heap.size ≤ w1.heap.size := Nat.le_of_lt hzw1
    have hxw1 : w.heap.size ≠ w1.heap.size := Nat.ne_of_lt hzw1
    have hk1 := hid ((hg1.block w.heap.size (by simp) (by simp; omega)).trans (heap_alloc_new w _))
    go_wp2
    refine bodyPost_ret (v := .tuple #[.agg #[.int .i64 0, .int .i64 0], .bool true]) (res_ct Try.results107 rfl (Go.heap_setCell_same _ _ 1 _ _ _ (Go.heap_setCell_same _ _ 0 _ _ _ hk1.out)) Try.underlying161 rfl (by kernel_rfl) rfl) rfl ⟨rfl, ?_, ?_⟩
    · repeat' (first | (with_reducible assumption) | (with_reducible refine Rd.alloc ?_ _) | (with_reducible refine Rd.drewN ?_ _) | (with_reducible refine Rd.step ?_) | (with_reducible refine Rd.other ?_ ?_ _) | (simp; omega))
    · repeat' (first | (with_reducible assumption) | (with_reducible exact grown_refl _ _) | (with_reducible refine grown_set ?_ ?_ _) | (with_reducible refine grown_alloc ?_ _) | (with_reducible refine grown_drewN ?_ _) | (with_reducible refine grown_trans ?_ (by assumption)) | (right; simp; done) | (right; simp; omega) | (left; rfl))
  · have H : Hid (¬ bt s i = 95) := hd
    have hsim : simB (bt s i) = true := by simpa [terB, hd] using h
    clear h hd
    go_enter Try.func107, Try.ntmps107
    go_wp2_with fail
    go_at_call 90
    refine (mark_no s b i _ hB (hr.alloc _) 95 H.out).mono ?_
    rintro e w1 ⟨rfl, hr1, hg1⟩
    obtain ⟨hc1, hf1⟩ := gcell hg1
    have hn1 : w1.heap.size ≠ b := by have := hr1.lt; omega
    have hzw1 : w.heap.size < w1.heap.size := by have := hg1.size; (try simp at this); omega
    have hyw1 : w.heap.size ≤ w1.heap.size := Nat.le_of_lt hzw1
    have hxw1 : w.heap.size ≠ w1.heap.size := Nat.ne_of_lt hzw1
    have hk1 := hid ((hg1.block w.heap.size (by simp) (by simp; omega)).trans (heap_alloc_new w _))
    go_wp2_with fail
    go_at_call 108
    refine (operand_yes s b i _ hB (by repeat' (first | (with_reducible assumption) | (with_reducible refine Rd.alloc ?_ _) | (with_reducible refine Rd.drewN ?_ _) | (with_reducible refine Rd.step ?_) | (with_reducible refine Rd.other ?_ ?_ _) | (simp; omega))) hsim).mono ?_
    rintro e w2 ⟨rfl, hr2, hg2⟩
    obtain ⟨hc2, hf2⟩ := gcell hg2
    have hn2 : w2.heap.size ≠ b := by have := hr2.lt; omega
    have hzw2 : w.heap.size < w2.heap.size := by have := hg2.size; (try simp at this); omega
    have hyw2 : w.heap.size ≤ w2.heap.size := Nat.le_of_lt hzw2
    have hxw2 : w.heap.size ≠ w2.heap.size := Nat.ne_of_lt hzw2
    have hk2 := hid ((hg2.block w.heap.size (by (try simp); omega) (by simp; omega)).trans hk1.out)
    go_wp2
    refine bodyPost_ret (v := .tuple #[.agg #[.int .i64 (opK (bt s i)), .int .i64 (opV (bt s i))], .bool true]) (res_ct Try.results107 rfl (Go.heap_setCell_same _ _ 1 _ _ _ (Go.heap_setCell_same _ _ 0 _ _ _ hk2.out)) Try.underlying161 rfl (by kernel_rfl) rfl) rfl ⟨rfl, ?_, ?_⟩
    · repeat' (first | (with_reducible assumption) | (with_reducible refine Rd.alloc ?_ _) | (with_reducible refine Rd.drewN ?_ _) | (with_reducible refine Rd.step ?_) | (with_reducible refine Rd.other ?_ ?_ _) | (simp; omega))
    · repeat' (first | (with_reducible assumption) | (with_reducible exact grown_refl _ _) | (with_reducible refine grown_set ?_ ?_ _) | (with_reducible refine grown_alloc ?_ _) | (with_reducible refine grown_drewN ?_ _) | (with_reducible refine grown_trans ?_ (by assumption)) | (right; simp; done) | (right; simp; omega) | (left; rfl))

set_option maxHeartbeats 800000 in
theorem term_no (s : ByteArray) (b i : Nat) (w : World) (hB : s.size ≤ 400 ∧ i ≤ 400) (hr : Rd w b s i) (h : terB (bt s i) = false) : Calls Try.prog 107 #[.pointer (some ⟨b, 0, none⟩)] w (RP w b s (.tuple #[.agg #[.int .i64 0, .int .i64 0], .bool false]) (i)) := by
  have hl := hr.lt
  have hne : w.heap.size ≠ b := by omega
  have hd : ¬ bt s i = 95 := by intro hx; simp [terB, hx] at h
  have H : Hid (¬ bt s i = 95) := hd
  have hsim : simB (bt s i) = false := by cases hx : simB (bt s i) <;> simp_all [terB]
  clear h hd
  go_enter Try.func107, Try.ntmps107
  go_wp2_with fail
  go_at_call 90
  refine (mark_no s b i _ hB (hr.alloc _) 95 H.out).mono ?_
  rintro e w1 ⟨rfl, hr1, hg1⟩
  obtain ⟨hc1, hf1⟩ := gcell hg1
  have hn1 : w1.heap.size ≠ b := by have := hr1.lt; omega
  have hzw1 : w.heap.size < w1.heap.size := by have := hg1.size; (try simp at this); omega
  have hyw1 : w.heap.size ≤ w1.heap.size := Nat.le_of_lt hzw1
  have hxw1 : w.heap.size ≠ w1.heap.size := Nat.ne_of_lt hzw1
  have hk1 := hid ((hg1.block w.heap.size (by simp) (by simp; omega)).trans (heap_alloc_new w _))
  go_wp2_with fail
  go_at_call 108
  refine (operand_no s b i _ hB (by repeat' (first | (with_reducible assumption) | (with_reducible refine Rd.alloc ?_ _) | (with_reducible refine Rd.drewN ?_ _) | (with_reducible refine Rd.step ?_) | (with_reducible refine Rd.other ?_ ?_ _) | (simp; omega))) hsim).mono ?_
  rintro e w2 ⟨rfl, hr2, hg2⟩
  obtain ⟨hc2, hf2⟩ := gcell hg2
  have hn2 : w2.heap.size ≠ b := by have := hr2.lt; omega
  have hzw2 : w.heap.size < w2.heap.size := by have := hg2.size; (try simp at this); omega
  have hyw2 : w.heap.size ≤ w2.heap.size := Nat.le_of_lt hzw2
  have hxw2 : w.heap.size ≠ w2.heap.size := Nat.ne_of_lt hzw2
  have hk2 := hid ((hg2.block w.heap.size (by (try simp); omega) (by simp; omega)).trans hk1.out)
  go_wp2
  refine bodyPost_ret (v := .tuple #[.agg #[.int .i64 0, .int .i64 0], .bool false]) (res_ct Try.results107 rfl (Go.heap_setCell_same _ _ 1 _ _ _ (Go.heap_setCell_same _ _ 0 _ _ _ hk2.out)) Try.underlying161 rfl (by kernel_rfl) rfl) rfl ⟨rfl, ?_, ?_⟩
  · repeat' (first | (with_reducible assumption) | (with_reducible refine Rd.alloc ?_ _) | (with_reducible refine Rd.drewN ?_ _) | (with_reducible refine Rd.step ?_) | (with_reducible refine Rd.other ?_ ?_ _) | (simp; omega))
  · repeat' (first | (with_reducible assumption) | (with_reducible exact grown_refl _ _) | (with_reducible refine grown_set ?_ ?_ _) | (with_reducible refine grown_alloc ?_ _) | (with_reducible refine grown_drewN ?_ _) | (with_reducible refine grown_trans ?_ (by assumption)) | (right; simp; done) | (right; simp; omega) | (left; rfl))

set_option maxHeartbeats 800000 in
theorem expr_no (s : ByteArray) (b i : Nat) (w : World) (hB : s.size ≤ 400 ∧ i ≤ 400) (hr : Rd w b s i) (h : simB (bt s i) = false) : Calls Try.prog 110 #[.pointer (some ⟨b, 0, none⟩)] w (RP w b s (.tuple #[.agg #[.int .i64 0, .int .i64 0, .int .i64 0], .bool false]) (i)) := by
  have hl := hr.lt
  have hne : w.heap.size ≠ b := by omega
  go_enter Try.func110, Try.ntmps110
  go_wp2_with fail
  go_at_call 108
  refine (operand_no s b i _ hB (hr.alloc _) h).mono ?_
  rintro e w1 ⟨rfl, hr1, hg1⟩
  obtain ⟨hc1, hf1⟩ := gcell hg1
  have hn1 : w1.heap.size ≠ b := by have := hr1.lt; omega
  have hzw1 : w.heap.size < w1.heap.size := by have := hg1.size; (try simp at this); omega
  have hyw1 : w.heap.size ≤ w1.heap.size := Nat.le_of_lt hzw1
  have hxw1 : w.heap.size ≠ w1.heap.size := Nat.ne_of_lt hzw1
  have hk1 := hid ((hg1.block w.heap.size (by simp) (by simp; omega)).trans (heap_alloc_new w _))
  go_wp2
  refine bodyPost_ret (v := .tuple #[.agg #[.int .i64 0, .int .i64 0, .int .i64 0], .bool false]) (res_ct Try.results110 rfl ((Below.heap_alloc _ _ _ (by simp; omega)).trans (Go.heap_setCell_same _ _ 2 _ _ _ (Go.heap_setCell_same _ _ 1 _ _ _ (Go.heap_setCell_same _ _ 0 _ _ _ hk1.out)))) Try.underlying173 rfl (by kernel_rfl) rfl) rfl ⟨rfl, ?_, ?_⟩
  · repeat' (first | (with_reducible assumption) | (with_reducible refine Rd.alloc ?_ _) | (with_reducible refine Rd.drewN ?_ _) | (with_reducible refine Rd.step ?_) | (with_reducible refine Rd.other ?_ ?_ _) | (simp; omega))
  · repeat' (first | (with_reducible assumption) | (with_reducible exact grown_refl _ _) | (with_reducible refine grown_set ?_ ?_ _) | (with_reducible refine grown_alloc ?_ _) | (with_reducible refine grown_drewN ?_ _) | (with_reducible refine grown_trans ?_ (by assumption)) | (right; simp; done) | (right; simp; omega) | (left; rfl))

set_option maxHeartbeats 800000 in
theorem expr_up (s : ByteArray) (b i : Nat) (w : World) (hB : s.size ≤ 400 ∧ i ≤ 400) (hr : Rd w b s i) (h : simB (bt s i) = true) (hB1 : i + 1 ≤ 400) (ht : bt s (i + 1) = 94) : Calls Try.prog 110 #[.pointer (some ⟨b, 0, none⟩)] w (RP w b s (.tuple #[.agg #[.int .i64 (opK (bt s i)), .int .i64 (opV (bt s i)), .int .i64 1], .bool true]) (i + 2)) := by
  have hl := hr.lt
  have hne : w.heap.size ≠ b := by omega
  have hs := hB.1
  have H : Hid (bt s (i + 1) = 94) := ht
  clear ht
  go_enter Try.func110, Try.ntmps110
  go_wp2_with fail
  go_at_call 108
  refine (operand_yes s b i _ hB (hr.alloc _) h).mono ?_
  rintro e w1 ⟨rfl, hr1, hg1⟩
  obtain ⟨hc1, hf1⟩ := gcell hg1
  have hn1 : w1.heap.size ≠ b := by have := hr1.lt; omega
  have hzw1 : w.heap.size < w1.heap.size := by have := hg1.size; (try simp at this); omega
  have hyw1 : w.heap.size ≤ w1.heap.size := Nat.le_of_lt hzw1
  have hxw1 : w.heap.size ≠ w1.heap.size := Nat.ne_of_lt hzw1
  have hk1 := hid ((hg1.block w.heap.size (by simp) (by simp; omega)).trans (heap_alloc_new w _))
  go_wp2_with fail
  go_at_call 90
  refine (mark_yes s b (i + 1) _ ⟨hs, hB1⟩ (by repeat' (first | (with_reducible assumption) | (with_reducible refine Rd.alloc ?_ _) | (with_reducible refine Rd.drewN ?_ _) | (with_reducible refine Rd.step ?_) | (with_reducible refine Rd.other ?_ ?_ _) | (simp; omega))) 94 H.out).mono ?_
  rintro e w2 ⟨rfl, hr2, hg2⟩
  obtain ⟨hc2, hf2⟩ := gcell hg2
  have hn2 : w2.heap.size ≠ b := by have := hr2.lt; omega
  have hzw2 : w.heap.size < w2.heap.size := by have := hg2.size; (try simp at this); omega
  have hyw2 : w.heap.size ≤ w2.heap.size := Nat.le_of_lt hzw2
  have hxw2 : w.heap.size ≠ w2.heap.size := Nat.ne_of_lt hzw2
  have hzw12 : w1.heap.size < w2.heap.size := by have := hg2.size; (try simp at this); omega
  have hyw12 : w1.heap.size ≤ w2.heap.size := Nat.le_of_lt hzw12
  have hxw12 : w1.heap.size ≠ w2.heap.size := Nat.ne_of_lt hzw12
  have hk2 := hid ((hg2.block w.heap.size (by (try simp); omega) (by simp; omega)).trans ((Below.heap_alloc _ _ _ hzw1).trans hk1.out))
  go_wp2
  refine bodyPost_ret (v := .tuple #[.agg #[.int .i64 (opK (bt s i)), .int .i64 (opV (bt s i)), .int .i64 1], .bool true]) (res_ct Try.results110 rfl (Go.heap_setCell_same _ _ 2 _ _ _ (Go.heap_setCell_same _ _ 1 _ _ _ (Go.heap_setCell_same _ _ 0 _ _ _ hk2.out))) Try.underlying173 rfl (by kernel_rfl) rfl) rfl ⟨rfl, ?_, ?_⟩
  · repeat' (first | (with_reducible assumption) | (with_reducible refine Rd.alloc ?_ _) | (with_reducible refine Rd.drewN ?_ _) | (with_reducible refine Rd.step ?_) | (with_reducible refine Rd.other ?_ ?_ _) | (simp; omega))
  · repeat' (first | (with_reducible assumption) | (with_reducible exact grown_refl _ _) | (with_reducible refine grown_set ?_ ?_ _) | (with_reducible refine grown_alloc ?_ _) | (with_reducible refine grown_drewN ?_ _) | (with_reducible refine grown_trans ?_ (by assumption)) | (right; simp; done) | (right; simp; omega) | (left; rfl))

set_option maxHeartbeats 800000 in
theorem expr_down (s : ByteArray) (b i : Nat) (w : World) (hB : s.size ≤ 400 ∧ i ≤ 400) (hr : Rd w b s i) (h : simB (bt s i) = true) (hB1 : i + 1 ≤ 400) (ht : bt s (i + 1) = 126) : Calls Try.prog 110 #[.pointer (some ⟨b, 0, none⟩)] w (RP w b s (.tuple #[.agg #[.int .i64 (opK (bt s i)), .int .i64 (opV (bt s i)), .int .i64 (-1)], .bool true]) (i + 2)) := by
  have hl := hr.lt
  have hne : w.heap.size ≠ b := by omega
  have hs := hB.1
  have H1 : Hid (¬ bt s (i + 1) = 94) := by intro hx; omega
  have H : Hid (bt s (i + 1) = 126) := ht
  clear ht
  go_enter Try.func110, Try.ntmps110
  go_wp2_with fail
  go_at_call 108
  refine (operand_yes s b i _ hB (hr.alloc _) h).mono ?_
  rintro e w1 ⟨rfl, hr1, hg1⟩
  obtain ⟨hc1, hf1⟩ := gcell hg1
  have hn1 : w1.heap.size ≠ b := by have := hr1.lt; omega
  have hzw1 : w.heap.size < w1.heap.size := by have := hg1.size; (try simp at this); omega
  have hyw1 : w.heap.size ≤ w1.heap.size := Nat.le_of_lt hzw1
  have hxw1 : w.heap.size ≠ w1.heap.size := Nat.ne_of_lt hzw1
  have hk1 := hid ((hg1.block w.heap.size (by simp) (by simp; omega)).trans (heap_alloc_new w _))
  go_wp2_with fail
  go_at_call 90
  refine (mark_no s b (i + 1) _ ⟨hs, hB1⟩ (by repeat' (first | (with_reducible assumption) | (with_reducible refine Rd.alloc ?_ _) | (with_reducible refine Rd.drewN ?_ _) | (with_reducible refine Rd.step ?_) | (with_reducible refine Rd.other ?_ ?_ _) | (simp; omega))) 94 H1.out).mono ?_
  rintro e w2 ⟨rfl, hr2, hg2⟩
  obtain ⟨hc2, hf2⟩ := gcell hg2
  have hn2 : w2.heap.size ≠ b := by have := hr2.lt; omega
  have hzw2 : w.heap.size < w2.heap.size := by have := hg2.size; (try simp at this); omega
  have hyw2 : w.heap.size ≤ w2.heap.size := Nat.le_of_lt hzw2
  have hxw2 : w.heap.size ≠ w2.heap.size := Nat.ne_of_lt hzw2
  have hzw12 : w1.heap.size < w2.heap.size := by have := hg2.size; (try simp at this); omega
  have hyw12 : w1.heap.size ≤ w2.heap.size := Nat.le_of_lt hzw12
  have hxw12 : w1.heap.size ≠ w2.heap.size := Nat.ne_of_lt hzw12
  have hk2 := hid ((hg2.block w.heap.size (by (try simp); omega) (by simp; omega)).trans ((Below.heap_alloc _ _ _ hzw1).trans hk1.out))
  go_wp2_with fail
  go_at_call 90
  refine (mark_yes s b (i + 1) _ ⟨hs, hB1⟩ (by repeat' (first | (with_reducible assumption) | (with_reducible refine Rd.alloc ?_ _) | (with_reducible refine Rd.drewN ?_ _) | (with_reducible refine Rd.step ?_) | (with_reducible refine Rd.other ?_ ?_ _) | (simp; omega))) 126 H.out).mono ?_
  rintro e w3 ⟨rfl, hr3, hg3⟩
  obtain ⟨hc3, hf3⟩ := gcell hg3
  have hn3 : w3.heap.size ≠ b := by have := hr3.lt; omega
  have hzw3 : w.heap.size < w3.heap.size := by have := hg3.size; (try simp at this); omega
  have hyw3 : w.heap.size ≤ w3.heap.size := Nat.le_of_lt hzw3
  have hxw3 : w.heap.size ≠ w3.heap.size := Nat.ne_of_lt hzw3
  have hzw13 : w1.heap.size < w3.heap.size := by have := hg3.size; (try simp at this); omega
  have hyw13 : w1.heap.size ≤ w3.heap.size := Nat.le_of_lt hzw13
  have hxw13 : w1.heap.size ≠ w3.heap.size := Nat.ne_of_lt hzw13
  have hk3 := hid ((hg3.block w.heap.size (by (try simp); omega) (by simp; omega)).trans hk2.out)
  go_wp2
  refine bodyPost_ret (v := .tuple #[.agg #[.int .i64 (opK (bt s i)), .int .i64 (opV (bt s i)), .int .i64 (-1)], .bool true]) (res_ct Try.results110 rfl (Go.heap_setCell_same _ _ 2 _ _ _ (Go.heap_setCell_same _ _ 1 _ _ _ (Go.heap_setCell_same _ _ 0 _ _ _ hk3.out))) Try.underlying173 rfl (by kernel_rfl) rfl) rfl ⟨rfl, ?_, ?_⟩
  · repeat' (first | (with_reducible assumption) | (with_reducible refine Rd.alloc ?_ _) | (with_reducible refine Rd.drewN ?_ _) | (with_reducible refine Rd.step ?_) | (with_reducible refine Rd.other ?_ ?_ _) | (simp; omega))
  · repeat' (first | (with_reducible assumption) | (with_reducible exact grown_refl _ _) | (with_reducible refine grown_set ?_ ?_ _) | (with_reducible refine grown_alloc ?_ _) | (with_reducible refine grown_drewN ?_ _) | (with_reducible refine grown_trans ?_ (by assumption)) | (right; simp; done) | (right; simp; omega) | (left; rfl))

set_option maxHeartbeats 800000 in
theorem expr_plain (s : ByteArray) (b i : Nat) (w : World) (hB : s.size ≤ 400 ∧ i ≤ 400) (hr : Rd w b s i) (h : simB (bt s i) = true) (hB1 : i + 1 ≤ 400) (ht : turB (bt s (i + 1)) = false) : Calls Try.prog 110 #[.pointer (some ⟨b, 0, none⟩)] w (RP w b s (.tuple #[.agg #[.int .i64 (opK (bt s i)), .int .i64 (opV (bt s i)), .int .i64 0], .bool true]) (i + 1)) := by
  have hl := hr.lt
  have hne : w.heap.size ≠ b := by omega
  have hs := hB.1
  have H1 : Hid (¬ bt s (i + 1) = 94) := by intro hx; simp [turB, hx] at ht
  have H : Hid (¬ bt s (i + 1) = 126) := by intro hx; simp [turB, hx] at ht
  clear ht
  go_enter Try.func110, Try.ntmps110
  go_wp2_with fail
  go_at_call 108
  refine (operand_yes s b i _ hB (hr.alloc _) h).mono ?_
  rintro e w1 ⟨rfl, hr1, hg1⟩
  obtain ⟨hc1, hf1⟩ := gcell hg1
  have hn1 : w1.heap.size ≠ b := by have := hr1.lt; omega
  have hzw1 : w.heap.size < w1.heap.size := by have := hg1.size; (try simp at this); omega
  have hyw1 : w.heap.size ≤ w1.heap.size := Nat.le_of_lt hzw1
  have hxw1 : w.heap.size ≠ w1.heap.size := Nat.ne_of_lt hzw1
  have hk1 := hid ((hg1.block w.heap.size (by simp) (by simp; omega)).trans (heap_alloc_new w _))
  go_wp2_with fail
  go_at_call 90
  refine (mark_no s b (i + 1) _ ⟨hs, hB1⟩ (by repeat' (first | (with_reducible assumption) | (with_reducible refine Rd.alloc ?_ _) | (with_reducible refine Rd.drewN ?_ _) | (with_reducible refine Rd.step ?_) | (with_reducible refine Rd.other ?_ ?_ _) | (simp; omega))) 94 H1.out).mono ?_
  rintro e w2 ⟨rfl, hr2, hg2⟩
  obtain ⟨hc2, hf2⟩ := gcell hg2
  have hn2 : w2.heap.size ≠ b := by have := hr2.lt; omega
  have hzw2 : w.heap.size < w2.heap.size := by have := hg2.size; (try simp at this); omega
  have hyw2 : w.heap.size ≤ w2.heap.size := Nat.le_of_lt hzw2
  have hxw2 : w.heap.size ≠ w2.heap.size := Nat.ne_of_lt hzw2
  have hzw12 : w1.heap.size < w2.heap.size := by have := hg2.size; (try simp at this); omega
  have hyw12 : w1.heap.size ≤ w2.heap.size := Nat.le_of_lt hzw12
  have hxw12 : w1.heap.size ≠ w2.heap.size := Nat.ne_of_lt hzw12
  have hk2 := hid ((hg2.block w.heap.size (by (try simp); omega) (by simp; omega)).trans ((Below.heap_alloc _ _ _ hzw1).trans hk1.out))
  go_wp2_with fail
  go_at_call 90
  refine (mark_no s b (i + 1) _ ⟨hs, hB1⟩ (by repeat' (first | (with_reducible assumption) | (with_reducible refine Rd.alloc ?_ _) | (with_reducible refine Rd.drewN ?_ _) | (with_reducible refine Rd.step ?_) | (with_reducible refine Rd.other ?_ ?_ _) | (simp; omega))) 126 H.out).mono ?_
  rintro e w3 ⟨rfl, hr3, hg3⟩
  obtain ⟨hc3, hf3⟩ := gcell hg3
  have hn3 : w3.heap.size ≠ b := by have := hr3.lt; omega
  have hzw3 : w.heap.size < w3.heap.size := by have := hg3.size; (try simp at this); omega
  have hyw3 : w.heap.size ≤ w3.heap.size := Nat.le_of_lt hzw3
  have hxw3 : w.heap.size ≠ w3.heap.size := Nat.ne_of_lt hzw3
  have hzw13 : w1.heap.size < w3.heap.size := by have := hg3.size; (try simp at this); omega
  have hyw13 : w1.heap.size ≤ w3.heap.size := Nat.le_of_lt hzw13
  have hxw13 : w1.heap.size ≠ w3.heap.size := Nat.ne_of_lt hzw13
  have hk3 := hid ((hg3.block w.heap.size (by (try simp); omega) (by simp; omega)).trans hk2.out)
  go_wp2
  refine bodyPost_ret (v := .tuple #[.agg #[.int .i64 (opK (bt s i)), .int .i64 (opV (bt s i)), .int .i64 0], .bool true]) (res_ct Try.results110 rfl (Go.heap_setCell_same _ _ 2 _ _ _ (Go.heap_setCell_same _ _ 1 _ _ _ (Go.heap_setCell_same _ _ 0 _ _ _ hk3.out))) Try.underlying173 rfl (by kernel_rfl) rfl) rfl ⟨rfl, ?_, ?_⟩
  · repeat' (first | (with_reducible assumption) | (with_reducible refine Rd.alloc ?_ _) | (with_reducible refine Rd.drewN ?_ _) | (with_reducible refine Rd.step ?_) | (with_reducible refine Rd.other ?_ ?_ _) | (simp; omega))
  · repeat' (first | (with_reducible assumption) | (with_reducible exact grown_refl _ _) | (with_reducible refine grown_set ?_ ?_ _) | (with_reducible refine grown_alloc ?_ _) | (with_reducible refine grown_drewN ?_ _) | (with_reducible refine grown_trans ?_ (by assumption)) | (right; simp; done) | (right; simp; omega) | (left; rfl))


end Go.Proofs.Ythlhbjnkohinmaa
