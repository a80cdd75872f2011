/- The reader's methods that read conditions and actions. (Written by program: wip/tools/mk_rd3.py.) -/
import Derived.Test.YthlhbjnkohinmaaRd2
namespace Go.Proofs.Ythlhbjnkohinmaa
open Go.RowKit


theorem expr_yes (s : ByteArray) (b i : Nat) (w : World) (hB : s.size ≤ 400 ∧ i ≤ 400) (hr : Rd w b s i) (h : simB (bt s i) = true) : Calls Try.prog 110 #[.pointer (some ⟨b, 0, none⟩)] w (RP w b s (.tuple #[.agg #[.int .i64 (opK (bt s i)), .int .i64 (opV (bt s i)), .int .i64 (exS (bt s (i + 1)))], .bool true]) (exJ s i)) := by
  have hlt := lt_of_sim h
  have hs := hB.1
  by_cases h1 : bt s (i + 1) = 94
  · have e1 : exS (bt s (i + 1)) = 1 := by simp [exS, h1]
    have e2 : exJ s i = i + 2 := by simp [exJ, turB, h1]
    rw [e1, e2]; exact expr_up s b i w hB hr h (by omega) h1
  · by_cases h2 : bt s (i + 1) = 126
    · have e1 : exS (bt s (i + 1)) = -1 := by simp [exS, h2]
      have e2 : exJ s i = i + 2 := by simp [exJ, turB, h2]
      rw [e1, e2]; exact expr_down s b i w hB hr h (by omega) h2
    · have e1 : exS (bt s (i + 1)) = 0 := by simp [exS, h1, h2]
      have e3 : turB (bt s (i + 1)) = false := by simp [turB, h1, h2]
      have e2 : exJ s i = i + 1 := by simp [exJ, e3]
      rw [e1, e2]; exact expr_plain s b i w hB hr h (by omega) e3

set_option maxHeartbeats 800000 in
theorem pattern_no0 (s : ByteArray) (b i : Nat) (w : World) (hB : s.size ≤ 400 ∧ i ≤ 400) (hr : Rd w b s i) (kind : Int) (h0 : clsB (bt s i) = false) : Calls Try.prog 102 #[.pointer (some ⟨b, 0, none⟩), .int .i64 kind] w (RP w b s (.tuple #[.agg #[.int .i64 0, .int .i64 0, .int .u8 0, .int .i64 0, .int .i64 0, .int .i64 0, .int .i64 0], .bool false]) (i)) := by
  have hl := hr.lt
  have hne : w.heap.size ≠ b := by omega
  have hs := hB.1
  go_enter Try.func102, Try.ntmps102
  go_wp2_with fail
  go_at_call 106
  refine (rclass_no s b i _ hB (hr.alloc _) h0).mono ?_
  rintro e w1 ⟨rfl, hr1, hg1⟩
  obtain ⟨hc1, hf1⟩ := gcell hg1
  have hn1 : w1.heap.size ≠ b := by have := hr1.lt; omega
  have hzw1 : w.heap.size < w1.heap.size := by have := hg1.size; (try simp at this); omega
  have hyw1 : w.heap.size ≤ w1.heap.size := Nat.le_of_lt hzw1
  have hxw1 : w.heap.size ≠ w1.heap.size := Nat.ne_of_lt hzw1
  have hk1 := hid ((hg1.block w.heap.size (by simp) (by simp; omega)).trans (heap_alloc_new w _))
  go_wp2
  refine bodyPost_ret (v := .tuple #[.agg #[.int .i64 0, .int .i64 0, .int .u8 0, .int .i64 0, .int .i64 0, .int .i64 0, .int .i64 0], .bool false]) (res_ct Try.results102 rfl (Go.heap_setCell_same _ _ 6 _ _ _ (Go.heap_setCell_same _ _ 5 _ _ _ (Go.heap_setCell_same _ _ 4 _ _ _ (Go.heap_setCell_same _ _ 3 _ _ _ (Go.heap_setCell_same _ _ 2 _ _ _ (Go.heap_setCell_same _ _ 1 _ _ _ (Go.heap_setCell_same _ _ 0 _ _ _ hk1.out))))))) Try.underlying163 rfl (by kernel_rfl) rfl) rfl ⟨rfl, ?_, ?_⟩
  · repeat' (first | (with_reducible assumption) | (with_reducible refine Rd.alloc ?_ _) | (with_reducible refine Rd.drewN ?_ _) | (with_reducible refine Rd.step ?_) | (with_reducible refine Rd.other ?_ ?_ _) | (simp; omega))
  · repeat' (first | (with_reducible assumption) | (with_reducible exact grown_refl _ _) | (with_reducible refine grown_set ?_ ?_ _) | (with_reducible refine grown_alloc ?_ _) | (with_reducible refine grown_drewN ?_ _) | (with_reducible refine grown_trans ?_ (by assumption)) | (right; simp; done) | (right; simp; omega) | (left; rfl))

set_option maxHeartbeats 800000 in
theorem pattern_no1 (s : ByteArray) (b i : Nat) (w : World) (hB : s.size ≤ 400 ∧ i ≤ 400) (hr : Rd w b s i) (kind : Int) (h0 : clsB (bt s i) = true) (h1 : terB (bt s (i + 1)) = false) : Calls Try.prog 102 #[.pointer (some ⟨b, 0, none⟩), .int .i64 kind] w (RP w b s (.tuple #[.agg #[.int .i64 0, .int .i64 0, .int .u8 0, .int .i64 0, .int .i64 0, .int .i64 0, .int .i64 0], .bool false]) (i + 1)) := by
  have hl := hr.lt
  have hne : w.heap.size ≠ b := by omega
  have hs := hB.1
  have hlt := lt_of_cls h0
  go_enter Try.func102, Try.ntmps102
  go_wp2_with fail
  go_at_call 106
  refine (rclass_yes s b i _ hB (hr.alloc _) h0).mono ?_
  rintro e w1 ⟨rfl, hr1, hg1⟩
  obtain ⟨hc1, hf1⟩ := gcell hg1
  have hn1 : w1.heap.size ≠ b := by have := hr1.lt; omega
  have hzw1 : w.heap.size < w1.heap.size := by have := hg1.size; (try simp at this); omega
  have hyw1 : w.heap.size ≤ w1.heap.size := Nat.le_of_lt hzw1
  have hxw1 : w.heap.size ≠ w1.heap.size := Nat.ne_of_lt hzw1
  have hk1 := hid ((hg1.block w.heap.size (by simp) (by simp; omega)).trans (heap_alloc_new w _))
  go_wp2_with fail
  go_at_call 107
  refine (term_no s b (i + 1) _ ⟨hs, by omega⟩ (by repeat' (first | (with_reducible assumption) | (with_reducible refine Rd.alloc ?_ _) | (with_reducible refine Rd.drewN ?_ _) | (with_reducible refine Rd.step ?_) | (with_reducible refine Rd.other ?_ ?_ _) | (simp; omega))) h1).mono ?_
  rintro e w2 ⟨rfl, hr2, hg2⟩
  obtain ⟨hc2, hf2⟩ := gcell hg2
  have hn2 : w2.heap.size ≠ b := by have := hr2.lt; omega
  have hzw2 : w.heap.size < w2.heap.size := by have := hg2.size; (try simp at this); omega
  have hyw2 : w.heap.size ≤ w2.heap.size := Nat.le_of_lt hzw2
  have hxw2 : w.heap.size ≠ w2.heap.size := Nat.ne_of_lt hzw2
  have hk2 := hid ((hg2.block w.heap.size (by (try simp); omega) (by simp; omega)).trans hk1.out)
  go_wp2
  refine bodyPost_ret (v := .tuple #[.agg #[.int .i64 0, .int .i64 0, .int .u8 0, .int .i64 0, .int .i64 0, .int .i64 0, .int .i64 0], .bool false]) (res_ct Try.results102 rfl ((Below.heap_alloc _ _ _ (by simp; omega)).trans (Go.heap_setCell_same _ _ 6 _ _ _ (Go.heap_setCell_same _ _ 5 _ _ _ (Go.heap_setCell_same _ _ 4 _ _ _ (Go.heap_setCell_same _ _ 3 _ _ _ (Go.heap_setCell_same _ _ 2 _ _ _ (Go.heap_setCell_same _ _ 1 _ _ _ (Go.heap_setCell_same _ _ 0 _ _ _ hk2.out)))))))) Try.underlying163 rfl (by kernel_rfl) rfl) rfl ⟨rfl, ?_, ?_⟩
  · repeat' (first | (with_reducible assumption) | (with_reducible refine Rd.alloc ?_ _) | (with_reducible refine Rd.drewN ?_ _) | (with_reducible refine Rd.step ?_) | (with_reducible refine Rd.other ?_ ?_ _) | (simp; omega))
  · repeat' (first | (with_reducible assumption) | (with_reducible exact grown_refl _ _) | (with_reducible refine grown_set ?_ ?_ _) | (with_reducible refine grown_alloc ?_ _) | (with_reducible refine grown_drewN ?_ _) | (with_reducible refine grown_trans ?_ (by assumption)) | (right; simp; done) | (right; simp; omega) | (left; rfl))

set_option maxHeartbeats 800000 in
theorem pattern_no2 (s : ByteArray) (b i : Nat) (w : World) (hB : s.size ≤ 400 ∧ i ≤ 400) (hr : Rd w b s i) (kind : Int) (h0 : clsB (bt s i) = true) (h1 : terB (bt s (i + 1)) = true) (h2 : terB (bt s (i + 2)) = false) : Calls Try.prog 102 #[.pointer (some ⟨b, 0, none⟩), .int .i64 kind] w (RP w b s (.tuple #[.agg #[.int .i64 kind, .int .i64 (bt s i - 97), .int .u8 0, .int .i64 (opK (bt s (i + 1))), .int .i64 (opV (bt s (i + 1))), .int .i64 0, .int .i64 0], .bool false]) (i + 2)) := by
  have hl := hr.lt
  have hne : w.heap.size ≠ b := by omega
  have hs := hB.1
  have hlt := lt_of_cls h0
  have hlt1 := lt_of_ter h1
  go_enter Try.func102, Try.ntmps102
  go_wp2_with fail
  go_at_call 106
  refine (rclass_yes s b i _ hB (hr.alloc _) h0).mono ?_
  rintro e w1 ⟨rfl, hr1, hg1⟩
  obtain ⟨hc1, hf1⟩ := gcell hg1
  have hn1 : w1.heap.size ≠ b := by have := hr1.lt; omega
  have hzw1 : w.heap.size < w1.heap.size := by have := hg1.size; (try simp at this); omega
  have hyw1 : w.heap.size ≤ w1.heap.size := Nat.le_of_lt hzw1
  have hxw1 : w.heap.size ≠ w1.heap.size := Nat.ne_of_lt hzw1
  have hk1 := hid ((hg1.block w.heap.size (by simp) (by simp; omega)).trans (heap_alloc_new w _))
  go_wp2_with fail
  go_at_call 107
  refine (term_yes s b (i + 1) _ ⟨hs, by omega⟩ (by repeat' (first | (with_reducible assumption) | (with_reducible refine Rd.alloc ?_ _) | (with_reducible refine Rd.drewN ?_ _) | (with_reducible refine Rd.step ?_) | (with_reducible refine Rd.other ?_ ?_ _) | (simp; omega))) h1).mono ?_
  rintro e w2 ⟨rfl, hr2, hg2⟩
  obtain ⟨hc2, hf2⟩ := gcell hg2
  have hn2 : w2.heap.size ≠ b := by have := hr2.lt; omega
  have hzw2 : w.heap.size < w2.heap.size := by have := hg2.size; (try simp at this); omega
  have hyw2 : w.heap.size ≤ w2.heap.size := Nat.le_of_lt hzw2
  have hxw2 : w.heap.size ≠ w2.heap.size := Nat.ne_of_lt hzw2
  have hk2 := hid ((hg2.block w.heap.size (by (try simp); omega) (by simp; omega)).trans hk1.out)
  go_wp2_with fail
  go_at_call 107
  refine (term_no s b (i + 2) _ ⟨hs, by omega⟩ (by repeat' (first | (with_reducible assumption) | (with_reducible refine Rd.alloc ?_ _) | (with_reducible refine Rd.drewN ?_ _) | (with_reducible refine Rd.step ?_) | (with_reducible refine Rd.other ?_ ?_ _) | (simp; omega))) h2).mono ?_
  rintro e w3 ⟨rfl, hr3, hg3⟩
  obtain ⟨hc3, hf3⟩ := gcell hg3
  have hn3 : w3.heap.size ≠ b := by have := hr3.lt; omega
  have hzw3 : w.heap.size < w3.heap.size := by have := hg3.size; (try simp at this); omega
  have hyw3 : w.heap.size ≤ w3.heap.size := Nat.le_of_lt hzw3
  have hxw3 : w.heap.size ≠ w3.heap.size := Nat.ne_of_lt hzw3
  have hzw23 : w2.heap.size < w3.heap.size := by have := hg3.size; (try simp at this); omega
  have hyw23 : w2.heap.size ≤ w3.heap.size := Nat.le_of_lt hzw23
  have hxw23 : w2.heap.size ≠ w3.heap.size := Nat.ne_of_lt hzw23
  have hk3 := hid ((hg3.block w.heap.size (by (try simp); omega) (by simp; omega)).trans ((Below.heap_alloc _ _ _ hzw2).trans hk2.out))
  go_wp2
  refine bodyPost_ret (v := .tuple #[.agg #[.int .i64 kind, .int .i64 (bt s i - 97), .int .u8 0, .int .i64 (opK (bt s (i + 1))), .int .i64 (opV (bt s (i + 1))), .int .i64 0, .int .i64 0], .bool false]) (res_ct Try.results102 rfl ((Below.heap_alloc _ _ _ (by simp; omega)).trans (Go.heap_setCell_same _ _ 6 _ _ _ (Go.heap_setCell_same _ _ 5 _ _ _ (Go.heap_setCell_same _ _ 4 _ _ _ (Go.heap_setCell_same _ _ 3 _ _ _ (Go.heap_setCell_same _ _ 2 _ _ _ (Go.heap_setCell_same _ _ 1 _ _ _ (Go.heap_setCell_same _ _ 0 _ _ _ hk3.out)))))))) Try.underlying163 rfl (by kernel_rfl) rfl) rfl ⟨rfl, ?_, ?_⟩
  · repeat' (first | (with_reducible assumption) | (with_reducible refine Rd.alloc ?_ _) | (with_reducible refine Rd.drewN ?_ _) | (with_reducible refine Rd.step ?_) | (with_reducible refine Rd.other ?_ ?_ _) | (simp; omega))
  · repeat' (first | (with_reducible assumption) | (with_reducible exact grown_refl _ _) | (with_reducible refine grown_set ?_ ?_ _) | (with_reducible refine grown_alloc ?_ _) | (with_reducible refine grown_drewN ?_ _) | (with_reducible refine grown_trans ?_ (by assumption)) | (right; simp; done) | (right; simp; omega) | (left; rfl))

set_option maxHeartbeats 800000 in
theorem pattern_yes (s : ByteArray) (b i : Nat) (w : World) (hB : s.size ≤ 400 ∧ i ≤ 400) (hr : Rd w b s i) (kind : Int) (h0 : clsB (bt s i) = true) (h1 : terB (bt s (i + 1)) = true) (h2 : terB (bt s (i + 2)) = true) : Calls Try.prog 102 #[.pointer (some ⟨b, 0, none⟩), .int .i64 kind] w (RP w b s (.tuple #[.agg #[.int .i64 kind, .int .i64 (bt s i - 97), .int .u8 0, .int .i64 (opK (bt s (i + 1))), .int .i64 (opV (bt s (i + 1))), .int .i64 (opK (bt s (i + 2))), .int .i64 (opV (bt s (i + 2)))], .bool true]) (i + 3)) := by
  have hl := hr.lt
  have hne : w.heap.size ≠ b := by omega
  have hs := hB.1
  have hlt := lt_of_cls h0
  have hlt1 := lt_of_ter h1
  go_enter Try.func102, Try.ntmps102
  go_wp2_with fail
  go_at_call 106
  refine (rclass_yes s b i _ hB (hr.alloc _) h0).mono ?_
  rintro e w1 ⟨rfl, hr1, hg1⟩
  obtain ⟨hc1, hf1⟩ := gcell hg1
  have hn1 : w1.heap.size ≠ b := by have := hr1.lt; omega
  have hzw1 : w.heap.size < w1.heap.size := by have := hg1.size; (try simp at this); omega
  have hyw1 : w.heap.size ≤ w1.heap.size := Nat.le_of_lt hzw1
  have hxw1 : w.heap.size ≠ w1.heap.size := Nat.ne_of_lt hzw1
  have hk1 := hid ((hg1.block w.heap.size (by simp) (by simp; omega)).trans (heap_alloc_new w _))
  go_wp2_with fail
  go_at_call 107
  refine (term_yes s b (i + 1) _ ⟨hs, by omega⟩ (by repeat' (first | (with_reducible assumption) | (with_reducible refine Rd.alloc ?_ _) | (with_reducible refine Rd.drewN ?_ _) | (with_reducible refine Rd.step ?_) | (with_reducible refine Rd.other ?_ ?_ _) | (simp; omega))) h1).mono ?_
  rintro e w2 ⟨rfl, hr2, hg2⟩
  obtain ⟨hc2, hf2⟩ := gcell hg2
  have hn2 : w2.heap.size ≠ b := by have := hr2.lt; omega
  have hzw2 : w.heap.size < w2.heap.size := by have := hg2.size; (try simp at this); omega
  have hyw2 : w.heap.size ≤ w2.heap.size := Nat.le_of_lt hzw2
  have hxw2 : w.heap.size ≠ w2.heap.size := Nat.ne_of_lt hzw2
  have hk2 := hid ((hg2.block w.heap.size (by (try simp); omega) (by simp; omega)).trans hk1.out)
  go_wp2_with fail
  go_at_call 107
  refine (term_yes s b (i + 2) _ ⟨hs, by omega⟩ (by repeat' (first | (with_reducible assumption) | (with_reducible refine Rd.alloc ?_ _) | (with_reducible refine Rd.drewN ?_ _) | (with_reducible refine Rd.step ?_) | (with_reducible refine Rd.other ?_ ?_ _) | (simp; omega))) h2).mono ?_
  rintro e w3 ⟨rfl, hr3, hg3⟩
  obtain ⟨hc3, hf3⟩ := gcell hg3
  have hn3 : w3.heap.size ≠ b := by have := hr3.lt; omega
  have hzw3 : w.heap.size < w3.heap.size := by have := hg3.size; (try simp at this); omega
  have hyw3 : w.heap.size ≤ w3.heap.size := Nat.le_of_lt hzw3
  have hxw3 : w.heap.size ≠ w3.heap.size := Nat.ne_of_lt hzw3
  have hzw23 : w2.heap.size < w3.heap.size := by have := hg3.size; (try simp at this); omega
  have hyw23 : w2.heap.size ≤ w3.heap.size := Nat.le_of_lt hzw23
  have hxw23 : w2.heap.size ≠ w3.heap.size := Nat.ne_of_lt hzw23
  have hk3 := hid ((hg3.block w.heap.size (by (try simp); omega) (by simp; omega)).trans ((Below.heap_alloc _ _ _ hzw2).trans hk2.out))
  go_wp2
  refine bodyPost_ret (v := .tuple #[.agg #[.int .i64 kind, .int .i64 (bt s i - 97), .int .u8 0, .int .i64 (opK (bt s (i + 1))), .int .i64 (opV (bt s (i + 1))), .int .i64 (opK (bt s (i + 2))), .int .i64 (opV (bt s (i + 2)))], .bool true]) (res_ct Try.results102 rfl ((Below.heap_alloc _ _ _ (by simp; omega)).trans (Go.heap_setCell_same _ _ 6 _ _ _ (Go.heap_setCell_same _ _ 5 _ _ _ (Go.heap_setCell_same _ _ 4 _ _ _ (Go.heap_setCell_same _ _ 3 _ _ _ (Go.heap_setCell_same _ _ 2 _ _ _ (Go.heap_setCell_same _ _ 1 _ _ _ (Go.heap_setCell_same _ _ 0 _ _ _ hk3.out)))))))) Try.underlying163 rfl (by kernel_rfl) rfl) rfl ⟨rfl, ?_, ?_⟩
  · repeat' (first | (with_reducible assumption) | (with_reducible refine Rd.alloc ?_ _) | (with_reducible refine Rd.drewN ?_ _) | (with_reducible refine Rd.step ?_) | (with_reducible refine Rd.other ?_ ?_ _) | (simp; omega))
  · repeat' (first | (with_reducible assumption) | (with_reducible exact grown_refl _ _) | (with_reducible refine grown_set ?_ ?_ _) | (with_reducible refine grown_alloc ?_ _) | (with_reducible refine grown_drewN ?_ _) | (with_reducible refine grown_trans ?_ (by assumption)) | (right; simp; done) | (right; simp; omega) | (left; rfl))

set_option maxHeartbeats 800000 in
theorem test_no0 (s : ByteArray) (b i : Nat) (w : World) (hB : s.size ≤ 400 ∧ i ≤ 400) (hr : Rd w b s i) (h0 : simB (bt s i) = false) : Calls Try.prog 103 #[.pointer (some ⟨b, 0, none⟩)] w (RP w b s (.tuple #[.agg #[.int .i64 0, .int .i64 0, .int .u8 0, .int .i64 0, .int .i64 0, .int .i64 0, .int .i64 0], .bool false]) (i)) := by
  have hl := hr.lt
  have hne : w.heap.size ≠ b := by omega
  have hs := hB.1
  go_enter Try.func103, Try.ntmps103
  go_wp2_with fail
  go_at_call 108
  refine (operand_no s b i _ hB (hr.alloc _) h0).mono ?_
  rintro e w1 ⟨rfl, hr1, hg1⟩
  obtain ⟨hc1, hf1⟩ := gcell hg1
  have hn1 : w1.heap.size ≠ b := by have := hr1.lt; omega
  have hzw1 : w.heap.size < w1.heap.size := by have := hg1.size; (try simp at this); omega
  have hyw1 : w.heap.size ≤ w1.heap.size := Nat.le_of_lt hzw1
  have hxw1 : w.heap.size ≠ w1.heap.size := Nat.ne_of_lt hzw1
  have hk1 := hid ((hg1.block w.heap.size (by simp) (by simp; omega)).trans (heap_alloc_new w _))
  go_wp2
  refine bodyPost_ret (v := .tuple #[.agg #[.int .i64 0, .int .i64 0, .int .u8 0, .int .i64 0, .int .i64 0, .int .i64 0, .int .i64 0], .bool false]) (res_ct Try.results103 rfl ((Below.heap_alloc _ _ _ (by simp; omega)).trans (Go.heap_setCell_same _ _ 6 _ _ _ (Go.heap_setCell_same _ _ 5 _ _ _ (Go.heap_setCell_same _ _ 4 _ _ _ (Go.heap_setCell_same _ _ 3 _ _ _ (Go.heap_setCell_same _ _ 2 _ _ _ (Go.heap_setCell_same _ _ 1 _ _ _ (Go.heap_setCell_same _ _ 0 _ _ _ hk1.out)))))))) Try.underlying163 rfl (by kernel_rfl) rfl) rfl ⟨rfl, ?_, ?_⟩
  · repeat' (first | (with_reducible assumption) | (with_reducible refine Rd.alloc ?_ _) | (with_reducible refine Rd.drewN ?_ _) | (with_reducible refine Rd.step ?_) | (with_reducible refine Rd.other ?_ ?_ _) | (simp; omega))
  · repeat' (first | (with_reducible assumption) | (with_reducible exact grown_refl _ _) | (with_reducible refine grown_set ?_ ?_ _) | (with_reducible refine grown_alloc ?_ _) | (with_reducible refine grown_drewN ?_ _) | (with_reducible refine grown_trans ?_ (by assumption)) | (right; simp; done) | (right; simp; omega) | (left; rfl))

set_option maxHeartbeats 800000 in
theorem test_no1 (s : ByteArray) (b i : Nat) (w : World) (hB : s.size ≤ 400 ∧ i ≤ 400) (hr : Rd w b s i) (h0 : simB (bt s i) = true) (h1 : sgnB (bt s (i + 1)) = false) : Calls Try.prog 103 #[.pointer (some ⟨b, 0, none⟩)] w (RP w b s (.tuple #[.agg #[.int .i64 0, .int .i64 0, .int .u8 0, .int .i64 0, .int .i64 0, .int .i64 0, .int .i64 0], .bool false]) (i + 1)) := by
  have hl := hr.lt
  have hne : w.heap.size ≠ b := by omega
  have hs := hB.1
  have hlt := lt_of_sim h0
  go_enter Try.func103, Try.ntmps103
  go_wp2_with fail
  go_at_call 108
  refine (operand_yes s b i _ hB (hr.alloc _) h0).mono ?_
  rintro e w1 ⟨rfl, hr1, hg1⟩
  obtain ⟨hc1, hf1⟩ := gcell hg1
  have hn1 : w1.heap.size ≠ b := by have := hr1.lt; omega
  have hzw1 : w.heap.size < w1.heap.size := by have := hg1.size; (try simp at this); omega
  have hyw1 : w.heap.size ≤ w1.heap.size := Nat.le_of_lt hzw1
  have hxw1 : w.heap.size ≠ w1.heap.size := Nat.ne_of_lt hzw1
  have hk1 := hid ((hg1.block w.heap.size (by simp) (by simp; omega)).trans (heap_alloc_new w _))
  go_wp2_with fail
  go_at_call 109
  refine (sign_no s b (i + 1) _ ⟨hs, by omega⟩ (by repeat' (first | (with_reducible assumption) | (with_reducible refine Rd.alloc ?_ _) | (with_reducible refine Rd.drewN ?_ _) | (with_reducible refine Rd.step ?_) | (with_reducible refine Rd.other ?_ ?_ _) | (simp; omega))) h1).mono ?_
  rintro e w2 ⟨rfl, hr2, hg2⟩
  obtain ⟨hc2, hf2⟩ := gcell hg2
  have hn2 : w2.heap.size ≠ b := by have := hr2.lt; omega
  have hzw2 : w.heap.size < w2.heap.size := by have := hg2.size; (try simp at this); omega
  have hyw2 : w.heap.size ≤ w2.heap.size := Nat.le_of_lt hzw2
  have hxw2 : w.heap.size ≠ w2.heap.size := Nat.ne_of_lt hzw2
  have hzw12 : w1.heap.size < w2.heap.size := by have := hg2.size; (try simp at this); omega
  have hyw12 : w1.heap.size ≤ w2.heap.size := Nat.le_of_lt hzw12
  have hxw12 : w1.heap.size ≠ w2.heap.size := Nat.ne_of_lt hzw12
  have hk2 := hid ((hg2.block w.heap.size (by (try simp); omega) (by simp; omega)).trans ((Below.heap_alloc _ _ _ hzw1).trans hk1.out))
  go_wp2
  refine bodyPost_ret (v := .tuple #[.agg #[.int .i64 0, .int .i64 0, .int .u8 0, .int .i64 0, .int .i64 0, .int .i64 0, .int .i64 0], .bool false]) (res_ct Try.results103 rfl (Go.heap_setCell_same _ _ 6 _ _ _ (Go.heap_setCell_same _ _ 5 _ _ _ (Go.heap_setCell_same _ _ 4 _ _ _ (Go.heap_setCell_same _ _ 3 _ _ _ (Go.heap_setCell_same _ _ 2 _ _ _ (Go.heap_setCell_same _ _ 1 _ _ _ (Go.heap_setCell_same _ _ 0 _ _ _ hk2.out))))))) Try.underlying163 rfl (by kernel_rfl) rfl) rfl ⟨rfl, ?_, ?_⟩
  · repeat' (first | (with_reducible assumption) | (with_reducible refine Rd.alloc ?_ _) | (with_reducible refine Rd.drewN ?_ _) | (with_reducible refine Rd.step ?_) | (with_reducible refine Rd.other ?_ ?_ _) | (simp; omega))
  · repeat' (first | (with_reducible assumption) | (with_reducible exact grown_refl _ _) | (with_reducible refine grown_set ?_ ?_ _) | (with_reducible refine grown_alloc ?_ _) | (with_reducible refine grown_drewN ?_ _) | (with_reducible refine grown_trans ?_ (by assumption)) | (right; simp; done) | (right; simp; omega) | (left; rfl))

set_option maxHeartbeats 800000 in
theorem test_no2 (s : ByteArray) (b i : Nat) (w : World) (hB : s.size ≤ 400 ∧ i ≤ 400) (hr : Rd w b s i) (h0 : simB (bt s i) = true) (h1 : sgnB (bt s (i + 1)) = true) (h2 : simB (bt s (i + 2)) = false) : Calls Try.prog 103 #[.pointer (some ⟨b, 0, none⟩)] w (RP w b s (.tuple #[.agg #[.int .i64 3, .int .i64 0, .int .u8 (bt s (i + 1)), .int .i64 (opK (bt s i)), .int .i64 (opV (bt s i)), .int .i64 0, .int .i64 0], .bool false]) (i + 2)) := by
  have hl := hr.lt
  have hne : w.heap.size ≠ b := by omega
  have hs := hB.1
  have hlt := lt_of_sim h0
  have hlt1 := lt_of_sgn h1
  go_enter Try.func103, Try.ntmps103
  go_wp2_with fail
  go_at_call 108
  refine (operand_yes s b i _ hB (hr.alloc _) h0).mono ?_
  rintro e w1 ⟨rfl, hr1, hg1⟩
  obtain ⟨hc1, hf1⟩ := gcell hg1
  have hn1 : w1.heap.size ≠ b := by have := hr1.lt; omega
  have hzw1 : w.heap.size < w1.heap.size := by have := hg1.size; (try simp at this); omega
  have hyw1 : w.heap.size ≤ w1.heap.size := Nat.le_of_lt hzw1
  have hxw1 : w.heap.size ≠ w1.heap.size := Nat.ne_of_lt hzw1
  have hk1 := hid ((hg1.block w.heap.size (by simp) (by simp; omega)).trans (heap_alloc_new w _))
  go_wp2_with fail
  go_at_call 109
  refine (sign_yes s b (i + 1) _ ⟨hs, by omega⟩ (by repeat' (first | (with_reducible assumption) | (with_reducible refine Rd.alloc ?_ _) | (with_reducible refine Rd.drewN ?_ _) | (with_reducible refine Rd.step ?_) | (with_reducible refine Rd.other ?_ ?_ _) | (simp; omega))) h1).mono ?_
  rintro e w2 ⟨rfl, hr2, hg2⟩
  obtain ⟨hc2, hf2⟩ := gcell hg2
  have hn2 : w2.heap.size ≠ b := by have := hr2.lt; omega
  have hzw2 : w.heap.size < w2.heap.size := by have := hg2.size; (try simp at this); omega
  have hyw2 : w.heap.size ≤ w2.heap.size := Nat.le_of_lt hzw2
  have hxw2 : w.heap.size ≠ w2.heap.size := Nat.ne_of_lt hzw2
  have hzw12 : w1.heap.size < w2.heap.size := by have := hg2.size; (try simp at this); omega
  have hyw12 : w1.heap.size ≤ w2.heap.size := Nat.le_of_lt hzw12
  have hxw12 : w1.heap.size ≠ w2.heap.size := Nat.ne_of_lt hzw12
  have hk2 := hid ((hg2.block w.heap.size (by (try simp); omega) (by simp; omega)).trans ((Below.heap_alloc _ _ _ hzw1).trans hk1.out))
  go_wp2_with fail
  go_at_call 108
  refine (operand_no s b (i + 2) _ ⟨hs, by omega⟩ (by repeat' (first | (with_reducible assumption) | (with_reducible refine Rd.alloc ?_ _) | (with_reducible refine Rd.drewN ?_ _) | (with_reducible refine Rd.step ?_) | (with_reducible refine Rd.other ?_ ?_ _) | (simp; omega))) h2).mono ?_
  rintro e w3 ⟨rfl, hr3, hg3⟩
  obtain ⟨hc3, hf3⟩ := gcell hg3
  have hn3 : w3.heap.size ≠ b := by have := hr3.lt; omega
  have hzw3 : w.heap.size < w3.heap.size := by have := hg3.size; (try simp at this); omega
  have hyw3 : w.heap.size ≤ w3.heap.size := Nat.le_of_lt hzw3
  have hxw3 : w.heap.size ≠ w3.heap.size := Nat.ne_of_lt hzw3
  have hzw13 : w1.heap.size < w3.heap.size := by have := hg3.size; (try simp at this); omega
  have hyw13 : w1.heap.size ≤ w3.heap.size := Nat.le_of_lt hzw13
  have hxw13 : w1.heap.size ≠ w3.heap.size := Nat.ne_of_lt hzw13
  have hk3 := hid ((hg3.block w.heap.size (by (try simp); omega) (by simp; omega)).trans hk2.out)
  go_wp2
  refine bodyPost_ret (v := .tuple #[.agg #[.int .i64 3, .int .i64 0, .int .u8 (bt s (i + 1)), .int .i64 (opK (bt s i)), .int .i64 (opV (bt s i)), .int .i64 0, .int .i64 0], .bool false]) (res_ct Try.results103 rfl ((Below.heap_alloc _ _ _ (by simp; omega)).trans (Go.heap_setCell_same _ _ 6 _ _ _ (Go.heap_setCell_same _ _ 5 _ _ _ (Go.heap_setCell_same _ _ 4 _ _ _ (Go.heap_setCell_same _ _ 3 _ _ _ (Go.heap_setCell_same _ _ 2 _ _ _ (Go.heap_setCell_same _ _ 1 _ _ _ (Go.heap_setCell_same _ _ 0 _ _ _ hk3.out)))))))) Try.underlying163 rfl (by kernel_rfl) rfl) rfl ⟨rfl, ?_, ?_⟩
  · repeat' (first | (with_reducible assumption) | (with_reducible refine Rd.alloc ?_ _) | (with_reducible refine Rd.drewN ?_ _) | (with_reducible refine Rd.step ?_) | (with_reducible refine Rd.other ?_ ?_ _) | (simp; omega))
  · repeat' (first | (with_reducible assumption) | (with_reducible exact grown_refl _ _) | (with_reducible refine grown_set ?_ ?_ _) | (with_reducible refine grown_alloc ?_ _) | (with_reducible refine grown_drewN ?_ _) | (with_reducible refine grown_trans ?_ (by assumption)) | (right; simp; done) | (right; simp; omega) | (left; rfl))

set_option maxHeartbeats 800000 in
theorem test_yes (s : ByteArray) (b i : Nat) (w : World) (hB : s.size ≤ 400 ∧ i ≤ 400) (hr : Rd w b s i) (h0 : simB (bt s i) = true) (h1 : sgnB (bt s (i + 1)) = true) (h2 : simB (bt s (i + 2)) = true) : Calls Try.prog 103 #[.pointer (some ⟨b, 0, none⟩)] w (RP w b s (.tuple #[.agg #[.int .i64 3, .int .i64 0, .int .u8 (bt s (i + 1)), .int .i64 (opK (bt s i)), .int .i64 (opV (bt s i)), .int .i64 (opK (bt s (i + 2))), .int .i64 (opV (bt s (i + 2)))], .bool true]) (i + 3)) := by
  have hl := hr.lt
  have hne : w.heap.size ≠ b := by omega
  have hs := hB.1
  have hlt := lt_of_sim h0
  have hlt1 := lt_of_sgn h1
  go_enter Try.func103, Try.ntmps103
  go_wp2_with fail
  go_at_call 108
  refine (operand_yes s b i _ hB (hr.alloc _) h0).mono ?_
  rintro e w1 ⟨rfl, hr1, hg1⟩
  obtain ⟨hc1, hf1⟩ := gcell hg1
  have hn1 : w1.heap.size ≠ b := by have := hr1.lt; omega
  have hzw1 : w.heap.size < w1.heap.size := by have := hg1.size; (try simp at this); omega
  have hyw1 : w.heap.size ≤ w1.heap.size := Nat.le_of_lt hzw1
  have hxw1 : w.heap.size ≠ w1.heap.size := Nat.ne_of_lt hzw1
  have hk1 := hid ((hg1.block w.heap.size (by simp) (by simp; omega)).trans (heap_alloc_new w _))
  go_wp2_with fail
  go_at_call 109
  refine (sign_yes s b (i + 1) _ ⟨hs, by omega⟩ (by repeat' (first | (with_reducible assumption) | (with_reducible refine Rd.alloc ?_ _) | (with_reducible refine Rd.drewN ?_ _) | (with_reducible refine Rd.step ?_) | (with_reducible refine Rd.other ?_ ?_ _) | (simp; omega))) h1).mono ?_
  rintro e w2 ⟨rfl, hr2, hg2⟩
  obtain ⟨hc2, hf2⟩ := gcell hg2
  have hn2 : w2.heap.size ≠ b := by have := hr2.lt; omega
  have hzw2 : w.heap.size < w2.heap.size := by have := hg2.size; (try simp at this); omega
  have hyw2 : w.heap.size ≤ w2.heap.size := Nat.le_of_lt hzw2
  have hxw2 : w.heap.size ≠ w2.heap.size := Nat.ne_of_lt hzw2
  have hzw12 : w1.heap.size < w2.heap.size := by have := hg2.size; (try simp at this); omega
  have hyw12 : w1.heap.size ≤ w2.heap.size := Nat.le_of_lt hzw12
  have hxw12 : w1.heap.size ≠ w2.heap.size := Nat.ne_of_lt hzw12
  have hk2 := hid ((hg2.block w.heap.size (by (try simp); omega) (by simp; omega)).trans ((Below.heap_alloc _ _ _ hzw1).trans hk1.out))
  go_wp2_with fail
  go_at_call 108
  refine (operand_yes s b (i + 2) _ ⟨hs, by omega⟩ (by repeat' (first | (with_reducible assumption) | (with_reducible refine Rd.alloc ?_ _) | (with_reducible refine Rd.drewN ?_ _) | (with_reducible refine Rd.step ?_) | (with_reducible refine Rd.other ?_ ?_ _) | (simp; omega))) h2).mono ?_
  rintro e w3 ⟨rfl, hr3, hg3⟩
  obtain ⟨hc3, hf3⟩ := gcell hg3
  have hn3 : w3.heap.size ≠ b := by have := hr3.lt; omega
  have hzw3 : w.heap.size < w3.heap.size := by have := hg3.size; (try simp at this); omega
  have hyw3 : w.heap.size ≤ w3.heap.size := Nat.le_of_lt hzw3
  have hxw3 : w.heap.size ≠ w3.heap.size := Nat.ne_of_lt hzw3
  have hzw13 : w1.heap.size < w3.heap.size := by have := hg3.size; (try simp at this); omega
  have hyw13 : w1.heap.size ≤ w3.heap.size := Nat.le_of_lt hzw13
  have hxw13 : w1.heap.size ≠ w3.heap.size := Nat.ne_of_lt hzw13
  have hk3 := hid ((hg3.block w.heap.size (by (try simp); omega) (by simp; omega)).trans hk2.out)
  go_wp2
  refine bodyPost_ret (v := .tuple #[.agg #[.int .i64 3, .int .i64 0, .int .u8 (bt s (i + 1)), .int .i64 (opK (bt s i)), .int .i64 (opV (bt s i)), .int .i64 (opK (bt s (i + 2))), .int .i64 (opV (bt s (i + 2)))], .bool true]) (res_ct Try.results103 rfl ((Below.heap_alloc _ _ _ (by simp; omega)).trans (Go.heap_setCell_same _ _ 6 _ _ _ (Go.heap_setCell_same _ _ 5 _ _ _ (Go.heap_setCell_same _ _ 4 _ _ _ (Go.heap_setCell_same _ _ 3 _ _ _ (Go.heap_setCell_same _ _ 2 _ _ _ (Go.heap_setCell_same _ _ 1 _ _ _ (Go.heap_setCell_same _ _ 0 _ _ _ hk3.out)))))))) Try.underlying163 rfl (by kernel_rfl) rfl) rfl ⟨rfl, ?_, ?_⟩
  · repeat' (first | (with_reducible assumption) | (with_reducible refine Rd.alloc ?_ _) | (with_reducible refine Rd.drewN ?_ _) | (with_reducible refine Rd.step ?_) | (with_reducible refine Rd.other ?_ ?_ _) | (simp; omega))
  · repeat' (first | (with_reducible assumption) | (with_reducible exact grown_refl _ _) | (with_reducible refine grown_set ?_ ?_ _) | (with_reducible refine grown_alloc ?_ _) | (with_reducible refine grown_drewN ?_ _) | (with_reducible refine grown_trans ?_ (by assumption)) | (right; simp; done) | (right; simp; omega) | (left; rfl))

set_option maxHeartbeats 800000 in
theorem empty_no0 (s : ByteArray) (b i : Nat) (w : World) (hB : s.size ≤ 400 ∧ i ≤ 400) (hr : Rd w b s i) (h0 : clsB (bt s i) = false) : Calls Try.prog 105 #[.pointer (some ⟨b, 0, none⟩)] w (RP w b s (.tuple #[.agg #[.int .i64 0, .int .i64 0, .int .i64 0, .int .i64 0, .int .i64 0, .int .i64 0, .int .i64 0, .int .i64 0], .bool false]) (i)) := by
  have hl := hr.lt
  have hne : w.heap.size ≠ b := by omega
  have hs := hB.1
  go_enter Try.func105, Try.ntmps105
  go_wp2_with fail
  go_at_call 106
  refine (rclass_no s b i _ hB (hr.alloc _) h0).mono ?_
  rintro e w1 ⟨rfl, hr1, hg1⟩
  obtain ⟨hc1, hf1⟩ := gcell hg1
  have hn1 : w1.heap.size ≠ b := by have := hr1.lt; omega
  have hzw1 : w.heap.size < w1.heap.size := by have := hg1.size; (try simp at this); omega
  have hyw1 : w.heap.size ≤ w1.heap.size := Nat.le_of_lt hzw1
  have hxw1 : w.heap.size ≠ w1.heap.size := Nat.ne_of_lt hzw1
  have hk1 := hid ((hg1.block w.heap.size (by simp) (by simp; omega)).trans (heap_alloc_new w _))
  go_wp2
  refine bodyPost_ret (v := .tuple #[.agg #[.int .i64 0, .int .i64 0, .int .i64 0, .int .i64 0, .int .i64 0, .int .i64 0, .int .i64 0, .int .i64 0], .bool false]) (res_ct Try.results105 rfl (Go.heap_setCell_same _ _ 7 _ _ _ (Go.heap_setCell_same _ _ 6 _ _ _ (Go.heap_setCell_same _ _ 5 _ _ _ (Go.heap_setCell_same _ _ 4 _ _ _ (Go.heap_setCell_same _ _ 3 _ _ _ (Go.heap_setCell_same _ _ 2 _ _ _ (Go.heap_setCell_same _ _ 1 _ _ _ (Go.heap_setCell_same _ _ 0 _ _ _ hk1.out)))))))) Try.underlying175 rfl (by kernel_rfl) rfl) rfl ⟨rfl, ?_, ?_⟩
  · repeat' (first | (with_reducible assumption) | (with_reducible refine Rd.alloc ?_ _) | (with_reducible refine Rd.drewN ?_ _) | (with_reducible refine Rd.step ?_) | (with_reducible refine Rd.other ?_ ?_ _) | (simp; omega))
  · repeat' (first | (with_reducible assumption) | (with_reducible exact grown_refl _ _) | (with_reducible refine grown_set ?_ ?_ _) | (with_reducible refine grown_alloc ?_ _) | (with_reducible refine grown_drewN ?_ _) | (with_reducible refine grown_trans ?_ (by assumption)) | (right; simp; done) | (right; simp; omega) | (left; rfl))

set_option maxHeartbeats 800000 in
theorem empty_no1 (s : ByteArray) (b i : Nat) (w : World) (hB : s.size ≤ 400 ∧ i ≤ 400) (hr : Rd w b s i) (h0 : clsB (bt s i) = true) (h1 : simB (bt s (i + 1)) = false) : Calls Try.prog 105 #[.pointer (some ⟨b, 0, none⟩)] w (RP w b s (.tuple #[.agg #[.int .i64 2, .int .i64 (bt s i - 97), .int .i64 0, .int .i64 0, .int .i64 0, .int .i64 0, .int .i64 0, .int .i64 0], .bool false]) (i + 1)) := by
  have hl := hr.lt
  have hne : w.heap.size ≠ b := by omega
  have hs := hB.1
  have hlt := lt_of_cls h0
  go_enter Try.func105, Try.ntmps105
  go_wp2_with fail
  go_at_call 106
  refine (rclass_yes s b i _ hB (hr.alloc _) h0).mono ?_
  rintro e w1 ⟨rfl, hr1, hg1⟩
  obtain ⟨hc1, hf1⟩ := gcell hg1
  have hn1 : w1.heap.size ≠ b := by have := hr1.lt; omega
  have hzw1 : w.heap.size < w1.heap.size := by have := hg1.size; (try simp at this); omega
  have hyw1 : w.heap.size ≤ w1.heap.size := Nat.le_of_lt hzw1
  have hxw1 : w.heap.size ≠ w1.heap.size := Nat.ne_of_lt hzw1
  have hk1 := hid ((hg1.block w.heap.size (by simp) (by simp; omega)).trans (heap_alloc_new w _))
  go_wp2_with fail
  go_at_call 110
  refine (expr_no s b (i + 1) _ ⟨hs, by omega⟩ (by repeat' (first | (with_reducible assumption) | (with_reducible refine Rd.alloc ?_ _) | (with_reducible refine Rd.drewN ?_ _) | (with_reducible refine Rd.step ?_) | (with_reducible refine Rd.other ?_ ?_ _) | (simp; omega))) h1).mono ?_
  rintro e w2 ⟨rfl, hr2, hg2⟩
  obtain ⟨hc2, hf2⟩ := gcell hg2
  have hn2 : w2.heap.size ≠ b := by have := hr2.lt; omega
  have hzw2 : w.heap.size < w2.heap.size := by have := hg2.size; (try simp at this); omega
  have hyw2 : w.heap.size ≤ w2.heap.size := Nat.le_of_lt hzw2
  have hxw2 : w.heap.size ≠ w2.heap.size := Nat.ne_of_lt hzw2
  have hk2 := hid ((hg2.block w.heap.size (by (try simp); omega) (by simp; omega)).trans hk1.out)
  go_wp2
  refine bodyPost_ret (v := .tuple #[.agg #[.int .i64 2, .int .i64 (bt s i - 97), .int .i64 0, .int .i64 0, .int .i64 0, .int .i64 0, .int .i64 0, .int .i64 0], .bool false]) (res_ct Try.results105 rfl ((Below.heap_alloc _ _ _ (by simp; omega)).trans (Go.heap_setCell_same _ _ 7 _ _ _ (Go.heap_setCell_same _ _ 6 _ _ _ (Go.heap_setCell_same _ _ 5 _ _ _ (Go.heap_setCell_same _ _ 4 _ _ _ (Go.heap_setCell_same _ _ 3 _ _ _ (Go.heap_setCell_same _ _ 2 _ _ _ (Go.heap_setCell_same _ _ 1 _ _ _ (Go.heap_setCell_same _ _ 0 _ _ _ hk2.out))))))))) Try.underlying175 rfl (by kernel_rfl) rfl) rfl ⟨rfl, ?_, ?_⟩
  · repeat' (first | (with_reducible assumption) | (with_reducible refine Rd.alloc ?_ _) | (with_reducible refine Rd.drewN ?_ _) | (with_reducible refine Rd.step ?_) | (with_reducible refine Rd.other ?_ ?_ _) | (simp; omega))
  · repeat' (first | (with_reducible assumption) | (with_reducible exact grown_refl _ _) | (with_reducible refine grown_set ?_ ?_ _) | (with_reducible refine grown_alloc ?_ _) | (with_reducible refine grown_drewN ?_ _) | (with_reducible refine grown_trans ?_ (by assumption)) | (right; simp; done) | (right; simp; omega) | (left; rfl))

set_option maxHeartbeats 800000 in
theorem empty_yes (s : ByteArray) (b i : Nat) (w : World) (hB : s.size ≤ 400 ∧ i ≤ 400) (hr : Rd w b s i) (h0 : clsB (bt s i) = true) (h1 : simB (bt s (i + 1)) = true) : Calls Try.prog 105 #[.pointer (some ⟨b, 0, none⟩)] w (RP w b s (.tuple #[.agg #[.int .i64 2, .int .i64 (bt s i - 97), .int .i64 (opK (bt s (i + 1))), .int .i64 (opV (bt s (i + 1))), .int .i64 (exS (bt s (i + 1 + 1))), .int .i64 0, .int .i64 0, .int .i64 0], .bool true]) (exJ s (i + 1))) := by
  have hl := hr.lt
  have hne : w.heap.size ≠ b := by omega
  have hs := hB.1
  have hlt := lt_of_cls h0
  go_enter Try.func105, Try.ntmps105
  go_wp2_with fail
  go_at_call 106
  refine (rclass_yes s b i _ hB (hr.alloc _) h0).mono ?_
  rintro e w1 ⟨rfl, hr1, hg1⟩
  obtain ⟨hc1, hf1⟩ := gcell hg1
  have hn1 : w1.heap.size ≠ b := by have := hr1.lt; omega
  have hzw1 : w.heap.size < w1.heap.size := by have := hg1.size; (try simp at this); omega
  have hyw1 : w.heap.size ≤ w1.heap.size := Nat.le_of_lt hzw1
  have hxw1 : w.heap.size ≠ w1.heap.size := Nat.ne_of_lt hzw1
  have hk1 := hid ((hg1.block w.heap.size (by simp) (by simp; omega)).trans (heap_alloc_new w _))
  go_wp2_with fail
  go_at_call 110
  refine (expr_yes s b (i + 1) _ ⟨hs, by omega⟩ (by repeat' (first | (with_reducible assumption) | (with_reducible refine Rd.alloc ?_ _) | (with_reducible refine Rd.drewN ?_ _) | (with_reducible refine Rd.step ?_) | (with_reducible refine Rd.other ?_ ?_ _) | (simp; omega))) h1).mono ?_
  rintro e w2 ⟨rfl, hr2, hg2⟩
  obtain ⟨hc2, hf2⟩ := gcell hg2
  have hn2 : w2.heap.size ≠ b := by have := hr2.lt; omega
  have hzw2 : w.heap.size < w2.heap.size := by have := hg2.size; (try simp at this); omega
  have hyw2 : w.heap.size ≤ w2.heap.size := Nat.le_of_lt hzw2
  have hxw2 : w.heap.size ≠ w2.heap.size := Nat.ne_of_lt hzw2
  have hk2 := hid ((hg2.block w.heap.size (by (try simp); omega) (by simp; omega)).trans hk1.out)
  go_wp2
  refine bodyPost_ret (v := .tuple #[.agg #[.int .i64 2, .int .i64 (bt s i - 97), .int .i64 (opK (bt s (i + 1))), .int .i64 (opV (bt s (i + 1))), .int .i64 (exS (bt s (i + 1 + 1))), .int .i64 0, .int .i64 0, .int .i64 0], .bool true]) (res_ct Try.results105 rfl ((Below.heap_alloc _ _ _ (by simp; omega)).trans (Go.heap_setCell_same _ _ 7 _ _ _ (Go.heap_setCell_same _ _ 6 _ _ _ (Go.heap_setCell_same _ _ 5 _ _ _ (Go.heap_setCell_same _ _ 4 _ _ _ (Go.heap_setCell_same _ _ 3 _ _ _ (Go.heap_setCell_same _ _ 2 _ _ _ (Go.heap_setCell_same _ _ 1 _ _ _ (Go.heap_setCell_same _ _ 0 _ _ _ hk2.out))))))))) Try.underlying175 rfl (by kernel_rfl) rfl) rfl ⟨rfl, ?_, ?_⟩
  · repeat' (first | (with_reducible assumption) | (with_reducible refine Rd.alloc ?_ _) | (with_reducible refine Rd.drewN ?_ _) | (with_reducible refine Rd.step ?_) | (with_reducible refine Rd.other ?_ ?_ _) | (simp; omega))
  · repeat' (first | (with_reducible assumption) | (with_reducible exact grown_refl _ _) | (with_reducible refine grown_set ?_ ?_ _) | (with_reducible refine grown_alloc ?_ _) | (with_reducible refine grown_drewN ?_ _) | (with_reducible refine grown_trans ?_ (by assumption)) | (right; simp; done) | (right; simp; omega) | (left; rfl))

set_option maxHeartbeats 800000 in
theorem fill_no0 (s : ByteArray) (b i : Nat) (w : World) (hB : s.size ≤ 400 ∧ i ≤ 400) (hr : Rd w b s i) (h0 : clsB (bt s i) = false) : Calls Try.prog 104 #[.pointer (some ⟨b, 0, none⟩)] w (RP w b s (.tuple #[.agg #[.int .i64 0, .int .i64 0, .int .i64 0, .int .i64 0, .int .i64 0, .int .i64 0, .int .i64 0, .int .i64 0], .bool false]) (i)) := by
  have hl := hr.lt
  have hne : w.heap.size ≠ b := by omega
  have hs := hB.1
  go_enter Try.func104, Try.ntmps104
  go_wp2_with fail
  go_at_call 106
  refine (rclass_no s b i _ hB (hr.alloc _) h0).mono ?_
  rintro e w1 ⟨rfl, hr1, hg1⟩
  obtain ⟨hc1, hf1⟩ := gcell hg1
  have hn1 : w1.heap.size ≠ b := by have := hr1.lt; omega
  have hzw1 : w.heap.size < w1.heap.size := by have := hg1.size; (try simp at this); omega
  have hyw1 : w.heap.size ≤ w1.heap.size := Nat.le_of_lt hzw1
  have hxw1 : w.heap.size ≠ w1.heap.size := Nat.ne_of_lt hzw1
  have hk1 := hid ((hg1.block w.heap.size (by simp) (by simp; omega)).trans (heap_alloc_new w _))
  go_wp2
  refine bodyPost_ret (v := .tuple #[.agg #[.int .i64 0, .int .i64 0, .int .i64 0, .int .i64 0, .int .i64 0, .int .i64 0, .int .i64 0, .int .i64 0], .bool false]) (res_ct Try.results104 rfl (Go.heap_setCell_same _ _ 7 _ _ _ (Go.heap_setCell_same _ _ 6 _ _ _ (Go.heap_setCell_same _ _ 5 _ _ _ (Go.heap_setCell_same _ _ 4 _ _ _ (Go.heap_setCell_same _ _ 3 _ _ _ (Go.heap_setCell_same _ _ 2 _ _ _ (Go.heap_setCell_same _ _ 1 _ _ _ (Go.heap_setCell_same _ _ 0 _ _ _ hk1.out)))))))) Try.underlying175 rfl (by kernel_rfl) rfl) rfl ⟨rfl, ?_, ?_⟩
  · repeat' (first | (with_reducible assumption) | (with_reducible refine Rd.alloc ?_ _) | (with_reducible refine Rd.drewN ?_ _) | (with_reducible refine Rd.step ?_) | (with_reducible refine Rd.other ?_ ?_ _) | (simp; omega))
  · repeat' (first | (with_reducible assumption) | (with_reducible exact grown_refl _ _) | (with_reducible refine grown_set ?_ ?_ _) | (with_reducible refine grown_alloc ?_ _) | (with_reducible refine grown_drewN ?_ _) | (with_reducible refine grown_trans ?_ (by assumption)) | (right; simp; done) | (right; simp; omega) | (left; rfl))

set_option maxHeartbeats 800000 in
theorem fill_no1 (s : ByteArray) (b i : Nat) (w : World) (hB : s.size ≤ 400 ∧ i ≤ 400) (hr : Rd w b s i) (h0 : clsB (bt s i) = true) (h1 : simB (bt s (i + 1)) = false) : Calls Try.prog 104 #[.pointer (some ⟨b, 0, none⟩)] w (RP w b s (.tuple #[.agg #[.int .i64 0, .int .i64 0, .int .i64 0, .int .i64 0, .int .i64 0, .int .i64 0, .int .i64 0, .int .i64 0], .bool false]) (i + 1)) := by
  have hl := hr.lt
  have hne : w.heap.size ≠ b := by omega
  have hs := hB.1
  have hlt := lt_of_cls h0
  go_enter Try.func104, Try.ntmps104
  go_wp2_with fail
  go_at_call 106
  refine (rclass_yes s b i _ hB (hr.alloc _) h0).mono ?_
  rintro e w1 ⟨rfl, hr1, hg1⟩
  obtain ⟨hc1, hf1⟩ := gcell hg1
  have hn1 : w1.heap.size ≠ b := by have := hr1.lt; omega
  have hzw1 : w.heap.size < w1.heap.size := by have := hg1.size; (try simp at this); omega
  have hyw1 : w.heap.size ≤ w1.heap.size := Nat.le_of_lt hzw1
  have hxw1 : w.heap.size ≠ w1.heap.size := Nat.ne_of_lt hzw1
  have hk1 := hid ((hg1.block w.heap.size (by simp) (by simp; omega)).trans (heap_alloc_new w _))
  go_wp2_with fail
  go_at_call 110
  refine (expr_no s b (i + 1) _ ⟨hs, by omega⟩ (by repeat' (first | (with_reducible assumption) | (with_reducible refine Rd.alloc ?_ _) | (with_reducible refine Rd.drewN ?_ _) | (with_reducible refine Rd.step ?_) | (with_reducible refine Rd.other ?_ ?_ _) | (simp; omega))) h1).mono ?_
  rintro e w2 ⟨rfl, hr2, hg2⟩
  obtain ⟨hc2, hf2⟩ := gcell hg2
  have hn2 : w2.heap.size ≠ b := by have := hr2.lt; omega
  have hzw2 : w.heap.size < w2.heap.size := by have := hg2.size; (try simp at this); omega
  have hyw2 : w.heap.size ≤ w2.heap.size := Nat.le_of_lt hzw2
  have hxw2 : w.heap.size ≠ w2.heap.size := Nat.ne_of_lt hzw2
  have hk2 := hid ((hg2.block w.heap.size (by (try simp); omega) (by simp; omega)).trans hk1.out)
  go_wp2
  refine bodyPost_ret (v := .tuple #[.agg #[.int .i64 0, .int .i64 0, .int .i64 0, .int .i64 0, .int .i64 0, .int .i64 0, .int .i64 0, .int .i64 0], .bool false]) (res_ct Try.results104 rfl ((Below.heap_alloc _ _ _ (by simp; omega)).trans (Go.heap_setCell_same _ _ 7 _ _ _ (Go.heap_setCell_same _ _ 6 _ _ _ (Go.heap_setCell_same _ _ 5 _ _ _ (Go.heap_setCell_same _ _ 4 _ _ _ (Go.heap_setCell_same _ _ 3 _ _ _ (Go.heap_setCell_same _ _ 2 _ _ _ (Go.heap_setCell_same _ _ 1 _ _ _ (Go.heap_setCell_same _ _ 0 _ _ _ hk2.out))))))))) Try.underlying175 rfl (by kernel_rfl) rfl) rfl ⟨rfl, ?_, ?_⟩
  · repeat' (first | (with_reducible assumption) | (with_reducible refine Rd.alloc ?_ _) | (with_reducible refine Rd.drewN ?_ _) | (with_reducible refine Rd.step ?_) | (with_reducible refine Rd.other ?_ ?_ _) | (simp; omega))
  · repeat' (first | (with_reducible assumption) | (with_reducible exact grown_refl _ _) | (with_reducible refine grown_set ?_ ?_ _) | (with_reducible refine grown_alloc ?_ _) | (with_reducible refine grown_drewN ?_ _) | (with_reducible refine grown_trans ?_ (by assumption)) | (right; simp; done) | (right; simp; omega) | (left; rfl))

set_option maxHeartbeats 800000 in
theorem fill_no2 (s : ByteArray) (b i : Nat) (w : World) (hB : s.size ≤ 400 ∧ i ≤ 400) (hr : Rd w b s i) (h0 : clsB (bt s i) = true) (h1 : simB (bt s (i + 1)) = true) (h2 : simB (bt s (exJ s (i + 1))) = false) : Calls Try.prog 104 #[.pointer (some ⟨b, 0, none⟩)] w (RP w b s (.tuple #[.agg #[.int .i64 1, .int .i64 (bt s i - 97), .int .i64 (opK (bt s (i + 1))), .int .i64 (opV (bt s (i + 1))), .int .i64 (exS (bt s (i + 1 + 1))), .int .i64 0, .int .i64 0, .int .i64 0], .bool false]) (exJ s (i + 1))) := by
  have hl := hr.lt
  have hne : w.heap.size ≠ b := by omega
  have hs := hB.1
  have hlt := lt_of_cls h0
  have hlt1 := exJ_le h1
  obtain ⟨j, hj⟩ : ∃ j, j = exJ s (i + 1) := ⟨_, rfl⟩
  have ex1 := fun W hW => expr_yes s b (i + 1) W ⟨hs, by omega⟩ hW h1
  rw [← hj] at h2 hlt1 ex1 ⊢
  clear hj
  go_enter Try.func104, Try.ntmps104
  go_wp2_with fail
  go_at_call 106
  refine (rclass_yes s b i _ hB (hr.alloc _) h0).mono ?_
  rintro e w1 ⟨rfl, hr1, hg1⟩
  obtain ⟨hc1, hf1⟩ := gcell hg1
  have hn1 : w1.heap.size ≠ b := by have := hr1.lt; omega
  have hzw1 : w.heap.size < w1.heap.size := by have := hg1.size; (try simp at this); omega
  have hyw1 : w.heap.size ≤ w1.heap.size := Nat.le_of_lt hzw1
  have hxw1 : w.heap.size ≠ w1.heap.size := Nat.ne_of_lt hzw1
  have hk1 := hid ((hg1.block w.heap.size (by simp) (by simp; omega)).trans (heap_alloc_new w _))
  go_wp2_with fail
  go_at_call 110
  refine (ex1 _ (by repeat' (first | (with_reducible assumption) | (with_reducible refine Rd.alloc ?_ _) | (with_reducible refine Rd.drewN ?_ _) | (with_reducible refine Rd.step ?_) | (with_reducible refine Rd.other ?_ ?_ _) | (simp; omega)))).mono ?_
  rintro e w2 ⟨rfl, hr2, hg2⟩
  obtain ⟨hc2, hf2⟩ := gcell hg2
  have hn2 : w2.heap.size ≠ b := by have := hr2.lt; omega
  have hzw2 : w.heap.size < w2.heap.size := by have := hg2.size; (try simp at this); omega
  have hyw2 : w.heap.size ≤ w2.heap.size := Nat.le_of_lt hzw2
  have hxw2 : w.heap.size ≠ w2.heap.size := Nat.ne_of_lt hzw2
  have hk2 := hid ((hg2.block w.heap.size (by (try simp); omega) (by simp; omega)).trans hk1.out)
  go_wp2_with fail
  go_at_call 110
  refine (expr_no s b j _ ⟨hs, by omega⟩ (by repeat' (first | (with_reducible assumption) | (with_reducible refine Rd.alloc ?_ _) | (with_reducible refine Rd.drewN ?_ _) | (with_reducible refine Rd.step ?_) | (with_reducible refine Rd.other ?_ ?_ _) | (simp; omega))) h2).mono ?_
  rintro e w3 ⟨rfl, hr3, hg3⟩
  obtain ⟨hc3, hf3⟩ := gcell hg3
  have hn3 : w3.heap.size ≠ b := by have := hr3.lt; omega
  have hzw3 : w.heap.size < w3.heap.size := by have := hg3.size; (try simp at this); omega
  have hyw3 : w.heap.size ≤ w3.heap.size := Nat.le_of_lt hzw3
  have hxw3 : w.heap.size ≠ w3.heap.size := Nat.ne_of_lt hzw3
  have hzw23 : w2.heap.size < w3.heap.size := by have := hg3.size; (try simp at this); omega
  have hyw23 : w2.heap.size ≤ w3.heap.size := Nat.le_of_lt hzw23
  have hxw23 : w2.heap.size ≠ w3.heap.size := Nat.ne_of_lt hzw23
  have hk3 := hid ((hg3.block w.heap.size (by (try simp); omega) (by simp; omega)).trans ((Below.heap_alloc _ _ _ hzw2).trans hk2.out))
  go_wp2
  refine bodyPost_ret (v := .tuple #[.agg #[.int .i64 1, .int .i64 (bt s i - 97), .int .i64 (opK (bt s (i + 1))), .int .i64 (opV (bt s (i + 1))), .int .i64 (exS (bt s (i + 1 + 1))), .int .i64 0, .int .i64 0, .int .i64 0], .bool false]) (res_ct Try.results104 rfl ((Below.heap_alloc _ _ _ (by simp; omega)).trans (Go.heap_setCell_same _ _ 7 _ _ _ (Go.heap_setCell_same _ _ 6 _ _ _ (Go.heap_setCell_same _ _ 5 _ _ _ (Go.heap_setCell_same _ _ 4 _ _ _ (Go.heap_setCell_same _ _ 3 _ _ _ (Go.heap_setCell_same _ _ 2 _ _ _ (Go.heap_setCell_same _ _ 1 _ _ _ (Go.heap_setCell_same _ _ 0 _ _ _ hk3.out))))))))) Try.underlying175 rfl (by kernel_rfl) rfl) rfl ⟨rfl, ?_, ?_⟩
  · repeat' (first | (with_reducible assumption) | (with_reducible refine Rd.alloc ?_ _) | (with_reducible refine Rd.drewN ?_ _) | (with_reducible refine Rd.step ?_) | (with_reducible refine Rd.other ?_ ?_ _) | (simp; omega))
  · repeat' (first | (with_reducible assumption) | (with_reducible exact grown_refl _ _) | (with_reducible refine grown_set ?_ ?_ _) | (with_reducible refine grown_alloc ?_ _) | (with_reducible refine grown_drewN ?_ _) | (with_reducible refine grown_trans ?_ (by assumption)) | (right; simp; done) | (right; simp; omega) | (left; rfl))

set_option maxHeartbeats 800000 in
theorem fill_yes (s : ByteArray) (b i : Nat) (w : World) (hB : s.size ≤ 400 ∧ i ≤ 400) (hr : Rd w b s i) (h0 : clsB (bt s i) = true) (h1 : simB (bt s (i + 1)) = true) (h2 : simB (bt s (exJ s (i + 1))) = true) : Calls Try.prog 104 #[.pointer (some ⟨b, 0, none⟩)] w (RP w b s (.tuple #[.agg #[.int .i64 1, .int .i64 (bt s i - 97), .int .i64 (opK (bt s (i + 1))), .int .i64 (opV (bt s (i + 1))), .int .i64 (exS (bt s (i + 1 + 1))), .int .i64 (opK (bt s (exJ s (i + 1)))), .int .i64 (opV (bt s (exJ s (i + 1)))), .int .i64 (exS (bt s (exJ s (i + 1) + 1)))], .bool true]) (exJ s (exJ s (i + 1)))) := by
  have hl := hr.lt
  have hne : w.heap.size ≠ b := by omega
  have hs := hB.1
  have hlt := lt_of_cls h0
  have hlt1 := exJ_le h1
  obtain ⟨j, hj⟩ : ∃ j, j = exJ s (i + 1) := ⟨_, rfl⟩
  have ex1 := fun W hW => expr_yes s b (i + 1) W ⟨hs, by omega⟩ hW h1
  rw [← hj] at h2 hlt1 ex1 ⊢
  clear hj
  go_enter Try.func104, Try.ntmps104
  go_wp2_with fail
  go_at_call 106
  refine (rclass_yes s b i _ hB (hr.alloc _) h0).mono ?_
  rintro e w1 ⟨rfl, hr1, hg1⟩
  obtain ⟨hc1, hf1⟩ := gcell hg1
  have hn1 : w1.heap.size ≠ b := by have := hr1.lt; omega
  have hzw1 : w.heap.size < w1.heap.size := by have := hg1.size; (try simp at this); omega
  have hyw1 : w.heap.size ≤ w1.heap.size := Nat.le_of_lt hzw1
  have hxw1 : w.heap.size ≠ w1.heap.size := Nat.ne_of_lt hzw1
  have hk1 := hid ((hg1.block w.heap.size (by simp) (by simp; omega)).trans (heap_alloc_new w _))
  go_wp2_with fail
  go_at_call 110
  refine (ex1 _ (by repeat' (first | (with_reducible assumption) | (with_reducible refine Rd.alloc ?_ _) | (with_reducible refine Rd.drewN ?_ _) | (with_reducible refine Rd.step ?_) | (with_reducible refine Rd.other ?_ ?_ _) | (simp; omega)))).mono ?_
  rintro e w2 ⟨rfl, hr2, hg2⟩
  obtain ⟨hc2, hf2⟩ := gcell hg2
  have hn2 : w2.heap.size ≠ b := by have := hr2.lt; omega
  have hzw2 : w.heap.size < w2.heap.size := by have := hg2.size; (try simp at this); omega
  have hyw2 : w.heap.size ≤ w2.heap.size := Nat.le_of_lt hzw2
  have hxw2 : w.heap.size ≠ w2.heap.size := Nat.ne_of_lt hzw2
  have hk2 := hid ((hg2.block w.heap.size (by (try simp); omega) (by simp; omega)).trans hk1.out)
  go_wp2_with fail
  go_at_call 110
  refine (expr_yes s b j _ ⟨hs, by omega⟩ (by repeat' (first | (with_reducible assumption) | (with_reducible refine Rd.alloc ?_ _) | (with_reducible refine Rd.drewN ?_ _) | (with_reducible refine Rd.step ?_) | (with_reducible refine Rd.other ?_ ?_ _) | (simp; omega))) h2).mono ?_
  rintro e w3 ⟨rfl, hr3, hg3⟩
  obtain ⟨hc3, hf3⟩ := gcell hg3
  have hn3 : w3.heap.size ≠ b := by have := hr3.lt; omega
  have hzw3 : w.heap.size < w3.heap.size := by have := hg3.size; (try simp at this); omega
  have hyw3 : w.heap.size ≤ w3.heap.size := Nat.le_of_lt hzw3
  have hxw3 : w.heap.size ≠ w3.heap.size := Nat.ne_of_lt hzw3
  have hzw23 : w2.heap.size < w3.heap.size := by have := hg3.size; (try simp at this); omega
  have hyw23 : w2.heap.size ≤ w3.heap.size := Nat.le_of_lt hzw23
  have hxw23 : w2.heap.size ≠ w3.heap.size := Nat.ne_of_lt hzw23
  have hk3 := hid ((hg3.block w.heap.size (by (try simp); omega) (by simp; omega)).trans ((Below.heap_alloc _ _ _ hzw2).trans hk2.out))
  go_wp2
  refine bodyPost_ret (v := .tuple #[.agg #[.int .i64 1, .int .i64 (bt s i - 97), .int .i64 (opK (bt s (i + 1))), .int .i64 (opV (bt s (i + 1))), .int .i64 (exS (bt s (i + 1 + 1))), .int .i64 (opK (bt s j)), .int .i64 (opV (bt s j)), .int .i64 (exS (bt s (j + 1)))], .bool true]) (res_ct Try.results104 rfl ((Below.heap_alloc _ _ _ (by simp; omega)).trans (Go.heap_setCell_same _ _ 7 _ _ _ (Go.heap_setCell_same _ _ 6 _ _ _ (Go.heap_setCell_same _ _ 5 _ _ _ (Go.heap_setCell_same _ _ 4 _ _ _ (Go.heap_setCell_same _ _ 3 _ _ _ (Go.heap_setCell_same _ _ 2 _ _ _ (Go.heap_setCell_same _ _ 1 _ _ _ (Go.heap_setCell_same _ _ 0 _ _ _ hk3.out))))))))) Try.underlying175 rfl (by kernel_rfl) rfl) rfl ⟨rfl, ?_, ?_⟩
  · repeat' (first | (with_reducible assumption) | (with_reducible refine Rd.alloc ?_ _) | (with_reducible refine Rd.drewN ?_ _) | (with_reducible refine Rd.step ?_) | (with_reducible refine Rd.other ?_ ?_ _) | (simp; omega))
  · repeat' (first | (with_reducible assumption) | (with_reducible exact grown_refl _ _) | (with_reducible refine grown_set ?_ ?_ _) | (with_reducible refine grown_alloc ?_ _) | (with_reducible refine grown_drewN ?_ _) | (with_reducible refine grown_trans ?_ (by assumption)) | (right; simp; done) | (right; simp; omega) | (left; rfl))


end Go.Proofs.Ythlhbjnkohinmaa
