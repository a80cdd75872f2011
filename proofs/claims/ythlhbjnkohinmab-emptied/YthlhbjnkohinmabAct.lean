/- The statements without the document's answer: an act of any kind. (Written by program: wip/tools/mk_act.py.) -/
import Derived.Test.YthlhbjnkohinmabPart20
namespace Go.Proofs.Ythlhbjnkohinmab
open Go.RowKit

set_option maxRecDepth 20000 in
set_option maxHeartbeats 2000000 in
theorem gact_open (x : Nat) (P : Asn) (hP : Framed P) (f : List Nat) (b c : Int) (s : ByteArray) (w : World) (hwi : ∀ y ∈ f, y < w.heap.size) (r1 : Int) (r2 : Int)
    (hC : ∀ W, Fr [] w W → Calls Try.prog 10 #[.pointer (some ⟨x, 0, none⟩)] W fun e w' => e = .returned (.tuple #[.int .i64 r1, .int .i64 r2]) ∧ ATo P f W w') :
    Calls Try.prog 6 #[.pointer (some ⟨x, 0, none⟩), actV 1 b c s] w fun e w' => e = .returned (ansV ByteArray.empty r1 0 r2) ∧ ATo P f w w' := by
  have HC := hid hC
  have HFIN : Hid (∀ W w1 w2 S, ATo P f W w1 → Fr [] w W → Fr S w1 w2 → (∀ y ∈ S, w.heap.size ≤ y ∧ y < W.heap.size) → ATo P f w w2) := hid (fun W w1 w2 S h1 h0 k hS => h1.scratch hP h0 hwi k hS)
  have hnf1 : w.heap.size + 1 ∉ f := fun e => by have := hwi _ e; omega
  have hnf2 : w.heap.size + 1 + 1 ∉ f := fun e => by have := hwi _ e; omega
  clear hC hwi
  go_enter Try.func6, Try.ntmps6
  go_wp2_with fail
  go_at_call 10
  refine (HC.out _ (((Fr.refl [] w).alloc _).alloc _ |>.alloc _)).mono ?_
  rintro e w1 ⟨rfl, ht⟩
  have HT := hid ht
  obtain ⟨_, _, _, _, hfr⟩ := ht
  have b1 : w1.heap[w.heap.size + 1]? = some (.cells #[.string ByteArray.empty, .int .i64 0, .int .i64 0, .int .i64 0] 29 (0, 0)) := (hfr.block _ (by simp) hnf1).trans ((Below.heap_alloc _ _ _ (by simp)).trans (heap_alloc_at (by simp)))
  have b2 : w1.heap[w.heap.size + 1 + 1]? = some (.cells #[.string ByteArray.empty, .int .i64 0, .int .i64 0, .int .i64 0] 29 (0, 0)) := (hfr.block _ (by simp) hnf2).trans (heap_alloc_at (by simp))
  have p0 : w1.cell? ⟨w.heap.size + 1, 0, none⟩ = some (.string ByteArray.empty) := by rw [cell_of_row _ _ _ _ _ _ b1]; rfl
  have p1 : w1.cell? ⟨w.heap.size + 1, 1, none⟩ = some (.int .i64 0) := by rw [cell_of_row _ _ _ _ _ _ b1]; rfl
  have p2 : w1.cell? ⟨w.heap.size + 1, 2, none⟩ = some (.int .i64 0) := by rw [cell_of_row _ _ _ _ _ _ b1]; rfl
  have p3 : w1.cell? ⟨w.heap.size + 1, 3, none⟩ = some (.int .i64 0) := by rw [cell_of_row _ _ _ _ _ _ b1]; rfl
  have q0 : w1.cell? ⟨w.heap.size + 1 + 1, 0, none⟩ = some (.string ByteArray.empty) := by rw [cell_of_row _ _ _ _ _ _ b2]; rfl
  have q1 : w1.cell? ⟨w.heap.size + 1 + 1, 1, none⟩ = some (.int .i64 0) := by rw [cell_of_row _ _ _ _ _ _ b2]; rfl
  have q2 : w1.cell? ⟨w.heap.size + 1 + 1, 2, none⟩ = some (.int .i64 0) := by rw [cell_of_row _ _ _ _ _ _ b2]; rfl
  have q3 : w1.cell? ⟨w.heap.size + 1 + 1, 3, none⟩ = some (.int .i64 0) := by rw [cell_of_row _ _ _ _ _ _ b2]; rfl
  have zp := frozen_blk b1
  have zq := frozen_blk b2
  have HB1 := hid b1
  clear hfr b1 b2 hnf1 hnf2
  go_wp2_with fail
  refine bodyPost_ret (v := ansV ByteArray.empty r1 0 r2) (results_cell_row Try.results6 _ _ _ _ _ _ _ rfl (Go.heap_setCell_same _ _ 3 _ _ _ (Go.heap_setCell_same _ _ 2 _ _ _ (Go.heap_setCell_same _ _ 1 _ _ _ (Go.heap_setCell_same _ _ 0 _ _ _ ((Below.heap_setCell _ _ _ _ (by simp)).trans ((Below.heap_setCell _ _ _ _ (by simp)).trans ((Below.heap_setCell _ _ _ _ (by simp)).trans ((Below.heap_setCell _ _ _ _ (by simp)).trans (HB1.out))))))))) Try.underlying29 rfl (by kernel_rfl)) rfl ⟨rfl, HFIN.out _ _ _ [w.heap.size + 1, w.heap.size + 1 + 1] HT.out (((Fr.refl [] w).alloc _).alloc _ |>.alloc _) ?_ (by simp; omega)⟩
  exact (((((((((Fr.refl [w.heap.size + 1, w.heap.size + 1 + 1] w1).set (.inl (by simp)) _).set (.inl (by simp)) _).set (.inl (by simp)) _).set (.inl (by simp)) _).set (.inl (by simp)) _).set (.inl (by simp)) _).set (.inl (by simp)) _).set (.inl (by simp)) _)


set_option maxRecDepth 20000 in
set_option maxHeartbeats 2000000 in
theorem gact_put (x : Nat) (P : Asn) (hP : Framed P) (f : List Nat) (b c : Int) (s : ByteArray) (w : World) (hwi : ∀ y ∈ f, y < w.heap.size) (r : Int)
    (hC : ∀ W, Fr [] w W → Calls Try.prog 14 #[.pointer (some ⟨x, 0, none⟩), .int .i64 b, .string s] W fun e w' => e = .returned (.int .i64 r) ∧ ATo P f W w') :
    Calls Try.prog 6 #[.pointer (some ⟨x, 0, none⟩), actV 2 b c s] w fun e w' => e = .returned (ansV ByteArray.empty 0 0 r) ∧ ATo P f w w' := by
  have HC := hid hC
  have HFIN : Hid (∀ W w1 w2 S, ATo P f W w1 → Fr [] w W → Fr S w1 w2 → (∀ y ∈ S, w.heap.size ≤ y ∧ y < W.heap.size) → ATo P f w w2) := hid (fun W w1 w2 S h1 h0 k hS => h1.scratch hP h0 hwi k hS)
  have hnf1 : w.heap.size + 1 ∉ f := fun e => by have := hwi _ e; omega
  have hnf2 : w.heap.size + 1 + 1 ∉ f := fun e => by have := hwi _ e; omega
  clear hC hwi
  go_enter Try.func6, Try.ntmps6
  go_wp2_with fail
  go_at_call 14
  refine (HC.out _ (((Fr.refl [] w).alloc _).alloc _ |>.alloc _)).mono ?_
  rintro e w1 ⟨rfl, ht⟩
  have HT := hid ht
  obtain ⟨_, _, _, _, hfr⟩ := ht
  have b1 : w1.heap[w.heap.size + 1]? = some (.cells #[.string ByteArray.empty, .int .i64 0, .int .i64 0, .int .i64 0] 29 (0, 0)) := (hfr.block _ (by simp) hnf1).trans ((Below.heap_alloc _ _ _ (by simp)).trans (heap_alloc_at (by simp)))
  have b2 : w1.heap[w.heap.size + 1 + 1]? = some (.cells #[.string ByteArray.empty, .int .i64 0, .int .i64 0, .int .i64 0] 29 (0, 0)) := (hfr.block _ (by simp) hnf2).trans (heap_alloc_at (by simp))
  have p0 : w1.cell? ⟨w.heap.size + 1, 0, none⟩ = some (.string ByteArray.empty) := by rw [cell_of_row _ _ _ _ _ _ b1]; rfl
  have p1 : w1.cell? ⟨w.heap.size + 1, 1, none⟩ = some (.int .i64 0) := by rw [cell_of_row _ _ _ _ _ _ b1]; rfl
  have p2 : w1.cell? ⟨w.heap.size + 1, 2, none⟩ = some (.int .i64 0) := by rw [cell_of_row _ _ _ _ _ _ b1]; rfl
  have p3 : w1.cell? ⟨w.heap.size + 1, 3, none⟩ = some (.int .i64 0) := by rw [cell_of_row _ _ _ _ _ _ b1]; rfl
  have q0 : w1.cell? ⟨w.heap.size + 1 + 1, 0, none⟩ = some (.string ByteArray.empty) := by rw [cell_of_row _ _ _ _ _ _ b2]; rfl
  have q1 : w1.cell? ⟨w.heap.size + 1 + 1, 1, none⟩ = some (.int .i64 0) := by rw [cell_of_row _ _ _ _ _ _ b2]; rfl
  have q2 : w1.cell? ⟨w.heap.size + 1 + 1, 2, none⟩ = some (.int .i64 0) := by rw [cell_of_row _ _ _ _ _ _ b2]; rfl
  have q3 : w1.cell? ⟨w.heap.size + 1 + 1, 3, none⟩ = some (.int .i64 0) := by rw [cell_of_row _ _ _ _ _ _ b2]; rfl
  have zp := frozen_blk b1
  have zq := frozen_blk b2
  have HB1 := hid b1
  clear hfr b1 b2 hnf1 hnf2
  go_wp2_with fail
  refine bodyPost_ret (v := ansV ByteArray.empty 0 0 r) (results_cell_row Try.results6 _ _ _ _ _ _ _ rfl (Go.heap_setCell_same _ _ 3 _ _ _ (Go.heap_setCell_same _ _ 2 _ _ _ (Go.heap_setCell_same _ _ 1 _ _ _ (Go.heap_setCell_same _ _ 0 _ _ _ ((Below.heap_setCell _ _ _ _ (by simp)).trans (HB1.out)))))) Try.underlying29 rfl (by kernel_rfl)) rfl ⟨rfl, HFIN.out _ _ _ [w.heap.size + 1, w.heap.size + 1 + 1] HT.out (((Fr.refl [] w).alloc _).alloc _ |>.alloc _) ?_ (by simp; omega)⟩
  exact ((((((Fr.refl [w.heap.size + 1, w.heap.size + 1 + 1] w1).set (.inl (by simp)) _).set (.inl (by simp)) _).set (.inl (by simp)) _).set (.inl (by simp)) _).set (.inl (by simp)) _)


set_option maxRecDepth 20000 in
set_option maxHeartbeats 2000000 in
theorem gact_clear (x : Nat) (P : Asn) (hP : Framed P) (f : List Nat) (b c : Int) (s : ByteArray) (w : World) (hwi : ∀ y ∈ f, y < w.heap.size) (r : Int)
    (hC : ∀ W, Fr [] w W → Calls Try.prog 15 #[.pointer (some ⟨x, 0, none⟩), .int .i64 b, .string s] W fun e w' => e = .returned (.int .i64 r) ∧ ATo P f W w') :
    Calls Try.prog 6 #[.pointer (some ⟨x, 0, none⟩), actV 3 b c s] w fun e w' => e = .returned (ansV ByteArray.empty 0 0 r) ∧ ATo P f w w' := by
  have HC := hid hC
  have HFIN : Hid (∀ W w1 w2 S, ATo P f W w1 → Fr [] w W → Fr S w1 w2 → (∀ y ∈ S, w.heap.size ≤ y ∧ y < W.heap.size) → ATo P f w w2) := hid (fun W w1 w2 S h1 h0 k hS => h1.scratch hP h0 hwi k hS)
  have hnf1 : w.heap.size + 1 ∉ f := fun e => by have := hwi _ e; omega
  have hnf2 : w.heap.size + 1 + 1 ∉ f := fun e => by have := hwi _ e; omega
  clear hC hwi
  go_enter Try.func6, Try.ntmps6
  go_wp2_with fail
  go_at_call 15
  refine (HC.out _ (((Fr.refl [] w).alloc _).alloc _ |>.alloc _)).mono ?_
  rintro e w1 ⟨rfl, ht⟩
  have HT := hid ht
  obtain ⟨_, _, _, _, hfr⟩ := ht
  have b1 : w1.heap[w.heap.size + 1]? = some (.cells #[.string ByteArray.empty, .int .i64 0, .int .i64 0, .int .i64 0] 29 (0, 0)) := (hfr.block _ (by simp) hnf1).trans ((Below.heap_alloc _ _ _ (by simp)).trans (heap_alloc_at (by simp)))
  have b2 : w1.heap[w.heap.size + 1 + 1]? = some (.cells #[.string ByteArray.empty, .int .i64 0, .int .i64 0, .int .i64 0] 29 (0, 0)) := (hfr.block _ (by simp) hnf2).trans (heap_alloc_at (by simp))
  have p0 : w1.cell? ⟨w.heap.size + 1, 0, none⟩ = some (.string ByteArray.empty) := by rw [cell_of_row _ _ _ _ _ _ b1]; rfl
  have p1 : w1.cell? ⟨w.heap.size + 1, 1, none⟩ = some (.int .i64 0) := by rw [cell_of_row _ _ _ _ _ _ b1]; rfl
  have p2 : w1.cell? ⟨w.heap.size + 1, 2, none⟩ = some (.int .i64 0) := by rw [cell_of_row _ _ _ _ _ _ b1]; rfl
  have p3 : w1.cell? ⟨w.heap.size + 1, 3, none⟩ = some (.int .i64 0) := by rw [cell_of_row _ _ _ _ _ _ b1]; rfl
  have q0 : w1.cell? ⟨w.heap.size + 1 + 1, 0, none⟩ = some (.string ByteArray.empty) := by rw [cell_of_row _ _ _ _ _ _ b2]; rfl
  have q1 : w1.cell? ⟨w.heap.size + 1 + 1, 1, none⟩ = some (.int .i64 0) := by rw [cell_of_row _ _ _ _ _ _ b2]; rfl
  have q2 : w1.cell? ⟨w.heap.size + 1 + 1, 2, none⟩ = some (.int .i64 0) := by rw [cell_of_row _ _ _ _ _ _ b2]; rfl
  have q3 : w1.cell? ⟨w.heap.size + 1 + 1, 3, none⟩ = some (.int .i64 0) := by rw [cell_of_row _ _ _ _ _ _ b2]; rfl
  have zp := frozen_blk b1
  have zq := frozen_blk b2
  have HB1 := hid b1
  clear hfr b1 b2 hnf1 hnf2
  go_wp2_with fail
  refine bodyPost_ret (v := ansV ByteArray.empty 0 0 r) (results_cell_row Try.results6 _ _ _ _ _ _ _ rfl (Go.heap_setCell_same _ _ 3 _ _ _ (Go.heap_setCell_same _ _ 2 _ _ _ (Go.heap_setCell_same _ _ 1 _ _ _ (Go.heap_setCell_same _ _ 0 _ _ _ ((Below.heap_setCell _ _ _ _ (by simp)).trans (HB1.out)))))) Try.underlying29 rfl (by kernel_rfl)) rfl ⟨rfl, HFIN.out _ _ _ [w.heap.size + 1, w.heap.size + 1 + 1] HT.out (((Fr.refl [] w).alloc _).alloc _ |>.alloc _) ?_ (by simp; omega)⟩
  exact ((((((Fr.refl [w.heap.size + 1, w.heap.size + 1 + 1] w1).set (.inl (by simp)) _).set (.inl (by simp)) _).set (.inl (by simp)) _).set (.inl (by simp)) _).set (.inl (by simp)) _)


set_option maxRecDepth 20000 in
set_option maxHeartbeats 2000000 in
theorem gact_view (x : Nat) (P : Asn) (hP : Framed P) (f : List Nat) (b c : Int) (s : ByteArray) (w : World) (hwi : ∀ y ∈ f, y < w.heap.size) (r1 : ByteArray) (r2 : Int)
    (hC : ∀ W, Fr [] w W → Calls Try.prog 11 #[.pointer (some ⟨x, 0, none⟩), .int .i64 b] W fun e w' => e = .returned (.tuple #[.string r1, .int .i64 r2]) ∧ ATo P f W w') :
    Calls Try.prog 6 #[.pointer (some ⟨x, 0, none⟩), actV 4 b c s] w fun e w' => e = .returned (ansV r1 0 0 r2) ∧ ATo P f w w' := by
  have HC := hid hC
  have HFIN : Hid (∀ W w1 w2 S, ATo P f W w1 → Fr [] w W → Fr S w1 w2 → (∀ y ∈ S, w.heap.size ≤ y ∧ y < W.heap.size) → ATo P f w w2) := hid (fun W w1 w2 S h1 h0 k hS => h1.scratch hP h0 hwi k hS)
  have hnf1 : w.heap.size + 1 ∉ f := fun e => by have := hwi _ e; omega
  have hnf2 : w.heap.size + 1 + 1 ∉ f := fun e => by have := hwi _ e; omega
  clear hC hwi
  go_enter Try.func6, Try.ntmps6
  go_wp2_with fail
  go_at_call 11
  refine (HC.out _ (((Fr.refl [] w).alloc _).alloc _ |>.alloc _)).mono ?_
  rintro e w1 ⟨rfl, ht⟩
  have HT := hid ht
  obtain ⟨_, _, _, _, hfr⟩ := ht
  have b1 : w1.heap[w.heap.size + 1]? = some (.cells #[.string ByteArray.empty, .int .i64 0, .int .i64 0, .int .i64 0] 29 (0, 0)) := (hfr.block _ (by simp) hnf1).trans ((Below.heap_alloc _ _ _ (by simp)).trans (heap_alloc_at (by simp)))
  have b2 : w1.heap[w.heap.size + 1 + 1]? = some (.cells #[.string ByteArray.empty, .int .i64 0, .int .i64 0, .int .i64 0] 29 (0, 0)) := (hfr.block _ (by simp) hnf2).trans (heap_alloc_at (by simp))
  have p0 : w1.cell? ⟨w.heap.size + 1, 0, none⟩ = some (.string ByteArray.empty) := by rw [cell_of_row _ _ _ _ _ _ b1]; rfl
  have p1 : w1.cell? ⟨w.heap.size + 1, 1, none⟩ = some (.int .i64 0) := by rw [cell_of_row _ _ _ _ _ _ b1]; rfl
  have p2 : w1.cell? ⟨w.heap.size + 1, 2, none⟩ = some (.int .i64 0) := by rw [cell_of_row _ _ _ _ _ _ b1]; rfl
  have p3 : w1.cell? ⟨w.heap.size + 1, 3, none⟩ = some (.int .i64 0) := by rw [cell_of_row _ _ _ _ _ _ b1]; rfl
  have q0 : w1.cell? ⟨w.heap.size + 1 + 1, 0, none⟩ = some (.string ByteArray.empty) := by rw [cell_of_row _ _ _ _ _ _ b2]; rfl
  have q1 : w1.cell? ⟨w.heap.size + 1 + 1, 1, none⟩ = some (.int .i64 0) := by rw [cell_of_row _ _ _ _ _ _ b2]; rfl
  have q2 : w1.cell? ⟨w.heap.size + 1 + 1, 2, none⟩ = some (.int .i64 0) := by rw [cell_of_row _ _ _ _ _ _ b2]; rfl
  have q3 : w1.cell? ⟨w.heap.size + 1 + 1, 3, none⟩ = some (.int .i64 0) := by rw [cell_of_row _ _ _ _ _ _ b2]; rfl
  have zp := frozen_blk b1
  have zq := frozen_blk b2
  have HB1 := hid b1
  clear hfr b1 b2 hnf1 hnf2
  go_wp2_with fail
  refine bodyPost_ret (v := ansV r1 0 0 r2) (results_cell_row Try.results6 _ _ _ _ _ _ _ rfl (Go.heap_setCell_same _ _ 3 _ _ _ (Go.heap_setCell_same _ _ 2 _ _ _ (Go.heap_setCell_same _ _ 1 _ _ _ (Go.heap_setCell_same _ _ 0 _ _ _ ((Below.heap_setCell _ _ _ _ (by simp)).trans ((Below.heap_setCell _ _ _ _ (by simp)).trans ((Below.heap_setCell _ _ _ _ (by simp)).trans ((Below.heap_setCell _ _ _ _ (by simp)).trans (HB1.out))))))))) Try.underlying29 rfl (by kernel_rfl)) rfl ⟨rfl, HFIN.out _ _ _ [w.heap.size + 1, w.heap.size + 1 + 1] HT.out (((Fr.refl [] w).alloc _).alloc _ |>.alloc _) ?_ (by simp; omega)⟩
  exact (((((((((Fr.refl [w.heap.size + 1, w.heap.size + 1 + 1] w1).set (.inl (by simp)) _).set (.inl (by simp)) _).set (.inl (by simp)) _).set (.inl (by simp)) _).set (.inl (by simp)) _).set (.inl (by simp)) _).set (.inl (by simp)) _).set (.inl (by simp)) _)


set_option maxRecDepth 20000 in
set_option maxHeartbeats 2000000 in
theorem gact_abort (x : Nat) (P : Asn) (hP : Framed P) (f : List Nat) (b c : Int) (s : ByteArray) (w : World) (hwi : ∀ y ∈ f, y < w.heap.size) (r : Int)
    (hC : ∀ W, Fr [] w W → Calls Try.prog 7 #[.pointer (some ⟨x, 0, none⟩), .int .i64 b] W fun e w' => e = .returned (.int .i64 r) ∧ ATo P f W w') :
    Calls Try.prog 6 #[.pointer (some ⟨x, 0, none⟩), actV 5 b c s] w fun e w' => e = .returned (ansV ByteArray.empty 0 0 r) ∧ ATo P f w w' := by
  have HC := hid hC
  have HFIN : Hid (∀ W w1 w2 S, ATo P f W w1 → Fr [] w W → Fr S w1 w2 → (∀ y ∈ S, w.heap.size ≤ y ∧ y < W.heap.size) → ATo P f w w2) := hid (fun W w1 w2 S h1 h0 k hS => h1.scratch hP h0 hwi k hS)
  have hnf1 : w.heap.size + 1 ∉ f := fun e => by have := hwi _ e; omega
  have hnf2 : w.heap.size + 1 + 1 ∉ f := fun e => by have := hwi _ e; omega
  clear hC hwi
  go_enter Try.func6, Try.ntmps6
  go_wp2_with fail
  go_at_call 7
  refine (HC.out _ (((Fr.refl [] w).alloc _).alloc _ |>.alloc _)).mono ?_
  rintro e w1 ⟨rfl, ht⟩
  have HT := hid ht
  obtain ⟨_, _, _, _, hfr⟩ := ht
  have b1 : w1.heap[w.heap.size + 1]? = some (.cells #[.string ByteArray.empty, .int .i64 0, .int .i64 0, .int .i64 0] 29 (0, 0)) := (hfr.block _ (by simp) hnf1).trans ((Below.heap_alloc _ _ _ (by simp)).trans (heap_alloc_at (by simp)))
  have b2 : w1.heap[w.heap.size + 1 + 1]? = some (.cells #[.string ByteArray.empty, .int .i64 0, .int .i64 0, .int .i64 0] 29 (0, 0)) := (hfr.block _ (by simp) hnf2).trans (heap_alloc_at (by simp))
  have p0 : w1.cell? ⟨w.heap.size + 1, 0, none⟩ = some (.string ByteArray.empty) := by rw [cell_of_row _ _ _ _ _ _ b1]; rfl
  have p1 : w1.cell? ⟨w.heap.size + 1, 1, none⟩ = some (.int .i64 0) := by rw [cell_of_row _ _ _ _ _ _ b1]; rfl
  have p2 : w1.cell? ⟨w.heap.size + 1, 2, none⟩ = some (.int .i64 0) := by rw [cell_of_row _ _ _ _ _ _ b1]; rfl
  have p3 : w1.cell? ⟨w.heap.size + 1, 3, none⟩ = some (.int .i64 0) := by rw [cell_of_row _ _ _ _ _ _ b1]; rfl
  have q0 : w1.cell? ⟨w.heap.size + 1 + 1, 0, none⟩ = some (.string ByteArray.empty) := by rw [cell_of_row _ _ _ _ _ _ b2]; rfl
  have q1 : w1.cell? ⟨w.heap.size + 1 + 1, 1, none⟩ = some (.int .i64 0) := by rw [cell_of_row _ _ _ _ _ _ b2]; rfl
  have q2 : w1.cell? ⟨w.heap.size + 1 + 1, 2, none⟩ = some (.int .i64 0) := by rw [cell_of_row _ _ _ _ _ _ b2]; rfl
  have q3 : w1.cell? ⟨w.heap.size + 1 + 1, 3, none⟩ = some (.int .i64 0) := by rw [cell_of_row _ _ _ _ _ _ b2]; rfl
  have zp := frozen_blk b1
  have zq := frozen_blk b2
  have HB1 := hid b1
  clear hfr b1 b2 hnf1 hnf2
  go_wp2_with fail
  refine bodyPost_ret (v := ansV ByteArray.empty 0 0 r) (results_cell_row Try.results6 _ _ _ _ _ _ _ rfl (Go.heap_setCell_same _ _ 3 _ _ _ (Go.heap_setCell_same _ _ 2 _ _ _ (Go.heap_setCell_same _ _ 1 _ _ _ (Go.heap_setCell_same _ _ 0 _ _ _ ((Below.heap_setCell _ _ _ _ (by simp)).trans (HB1.out)))))) Try.underlying29 rfl (by kernel_rfl)) rfl ⟨rfl, HFIN.out _ _ _ [w.heap.size + 1, w.heap.size + 1 + 1] HT.out (((Fr.refl [] w).alloc _).alloc _ |>.alloc _) ?_ (by simp; omega)⟩
  exact ((((((Fr.refl [w.heap.size + 1, w.heap.size + 1 + 1] w1).set (.inl (by simp)) _).set (.inl (by simp)) _).set (.inl (by simp)) _).set (.inl (by simp)) _).set (.inl (by simp)) _)


set_option maxRecDepth 20000 in
set_option maxHeartbeats 2000000 in
theorem gact_commit (x : Nat) (P : Asn) (hP : Framed P) (f : List Nat) (b c : Int) (s : ByteArray) (w : World) (hwi : ∀ y ∈ f, y < w.heap.size) (r1 : Int) (r2 : Int)
    (hC : ∀ W, Fr [] w W → Calls Try.prog 16 #[.pointer (some ⟨x, 0, none⟩), .int .i64 b] W fun e w' => e = .returned (.tuple #[.int .i64 r1, .int .i64 r2]) ∧ ATo P f W w') :
    Calls Try.prog 6 #[.pointer (some ⟨x, 0, none⟩), actV 6 b c s] w fun e w' => e = .returned (ansV ByteArray.empty r1 0 r2) ∧ ATo P f w w' := by
  have HC := hid hC
  have HFIN : Hid (∀ W w1 w2 S, ATo P f W w1 → Fr [] w W → Fr S w1 w2 → (∀ y ∈ S, w.heap.size ≤ y ∧ y < W.heap.size) → ATo P f w w2) := hid (fun W w1 w2 S h1 h0 k hS => h1.scratch hP h0 hwi k hS)
  have hnf1 : w.heap.size + 1 ∉ f := fun e => by have := hwi _ e; omega
  have hnf2 : w.heap.size + 1 + 1 ∉ f := fun e => by have := hwi _ e; omega
  clear hC hwi
  go_enter Try.func6, Try.ntmps6
  go_wp2_with fail
  go_at_call 16
  refine (HC.out _ (((Fr.refl [] w).alloc _).alloc _ |>.alloc _)).mono ?_
  rintro e w1 ⟨rfl, ht⟩
  have HT := hid ht
  obtain ⟨_, _, _, _, hfr⟩ := ht
  have b1 : w1.heap[w.heap.size + 1]? = some (.cells #[.string ByteArray.empty, .int .i64 0, .int .i64 0, .int .i64 0] 29 (0, 0)) := (hfr.block _ (by simp) hnf1).trans ((Below.heap_alloc _ _ _ (by simp)).trans (heap_alloc_at (by simp)))
  have b2 : w1.heap[w.heap.size + 1 + 1]? = some (.cells #[.string ByteArray.empty, .int .i64 0, .int .i64 0, .int .i64 0] 29 (0, 0)) := (hfr.block _ (by simp) hnf2).trans (heap_alloc_at (by simp))
  have p0 : w1.cell? ⟨w.heap.size + 1, 0, none⟩ = some (.string ByteArray.empty) := by rw [cell_of_row _ _ _ _ _ _ b1]; rfl
  have p1 : w1.cell? ⟨w.heap.size + 1, 1, none⟩ = some (.int .i64 0) := by rw [cell_of_row _ _ _ _ _ _ b1]; rfl
  have p2 : w1.cell? ⟨w.heap.size + 1, 2, none⟩ = some (.int .i64 0) := by rw [cell_of_row _ _ _ _ _ _ b1]; rfl
  have p3 : w1.cell? ⟨w.heap.size + 1, 3, none⟩ = some (.int .i64 0) := by rw [cell_of_row _ _ _ _ _ _ b1]; rfl
  have q0 : w1.cell? ⟨w.heap.size + 1 + 1, 0, none⟩ = some (.string ByteArray.empty) := by rw [cell_of_row _ _ _ _ _ _ b2]; rfl
  have q1 : w1.cell? ⟨w.heap.size + 1 + 1, 1, none⟩ = some (.int .i64 0) := by rw [cell_of_row _ _ _ _ _ _ b2]; rfl
  have q2 : w1.cell? ⟨w.heap.size + 1 + 1, 2, none⟩ = some (.int .i64 0) := by rw [cell_of_row _ _ _ _ _ _ b2]; rfl
  have q3 : w1.cell? ⟨w.heap.size + 1 + 1, 3, none⟩ = some (.int .i64 0) := by rw [cell_of_row _ _ _ _ _ _ b2]; rfl
  have zp := frozen_blk b1
  have zq := frozen_blk b2
  have HB1 := hid b1
  clear hfr b1 b2 hnf1 hnf2
  go_wp2_with fail
  refine bodyPost_ret (v := ansV ByteArray.empty r1 0 r2) (results_cell_row Try.results6 _ _ _ _ _ _ _ rfl (Go.heap_setCell_same _ _ 3 _ _ _ (Go.heap_setCell_same _ _ 2 _ _ _ (Go.heap_setCell_same _ _ 1 _ _ _ (Go.heap_setCell_same _ _ 0 _ _ _ ((Below.heap_setCell _ _ _ _ (by simp)).trans ((Below.heap_setCell _ _ _ _ (by simp)).trans ((Below.heap_setCell _ _ _ _ (by simp)).trans ((Below.heap_setCell _ _ _ _ (by simp)).trans (HB1.out))))))))) Try.underlying29 rfl (by kernel_rfl)) rfl ⟨rfl, HFIN.out _ _ _ [w.heap.size + 1, w.heap.size + 1 + 1] HT.out (((Fr.refl [] w).alloc _).alloc _ |>.alloc _) ?_ (by simp; omega)⟩
  exact (((((((((Fr.refl [w.heap.size + 1, w.heap.size + 1 + 1] w1).set (.inl (by simp)) _).set (.inl (by simp)) _).set (.inl (by simp)) _).set (.inl (by simp)) _).set (.inl (by simp)) _).set (.inl (by simp)) _).set (.inl (by simp)) _).set (.inl (by simp)) _)


set_option maxRecDepth 20000 in
set_option maxHeartbeats 2000000 in
theorem gact_matches (x : Nat) (P : Asn) (hP : Framed P) (f : List Nat) (b c : Int) (s : ByteArray) (w : World) (hwi : ∀ y ∈ f, y < w.heap.size) (r1 : ByteArray) (r2 : Int)
    (hC : ∀ W, Fr [] w W → Calls Try.prog 17 #[.pointer (some ⟨x, 0, none⟩), .int .i64 b] W fun e w' => e = .returned (.tuple #[.string r1, .int .i64 r2]) ∧ ATo P f W w') :
    Calls Try.prog 6 #[.pointer (some ⟨x, 0, none⟩), actV 7 b c s] w fun e w' => e = .returned (ansV r1 0 0 r2) ∧ ATo P f w w' := by
  have HC := hid hC
  have HFIN : Hid (∀ W w1 w2 S, ATo P f W w1 → Fr [] w W → Fr S w1 w2 → (∀ y ∈ S, w.heap.size ≤ y ∧ y < W.heap.size) → ATo P f w w2) := hid (fun W w1 w2 S h1 h0 k hS => h1.scratch hP h0 hwi k hS)
  have hnf1 : w.heap.size + 1 ∉ f := fun e => by have := hwi _ e; omega
  have hnf2 : w.heap.size + 1 + 1 ∉ f := fun e => by have := hwi _ e; omega
  clear hC hwi
  go_enter Try.func6, Try.ntmps6
  go_wp2_with fail
  go_at_call 17
  refine (HC.out _ (((Fr.refl [] w).alloc _).alloc _ |>.alloc _)).mono ?_
  rintro e w1 ⟨rfl, ht⟩
  have HT := hid ht
  obtain ⟨_, _, _, _, hfr⟩ := ht
  have b1 : w1.heap[w.heap.size + 1]? = some (.cells #[.string ByteArray.empty, .int .i64 0, .int .i64 0, .int .i64 0] 29 (0, 0)) := (hfr.block _ (by simp) hnf1).trans ((Below.heap_alloc _ _ _ (by simp)).trans (heap_alloc_at (by simp)))
  have b2 : w1.heap[w.heap.size + 1 + 1]? = some (.cells #[.string ByteArray.empty, .int .i64 0, .int .i64 0, .int .i64 0] 29 (0, 0)) := (hfr.block _ (by simp) hnf2).trans (heap_alloc_at (by simp))
  have p0 : w1.cell? ⟨w.heap.size + 1, 0, none⟩ = some (.string ByteArray.empty) := by rw [cell_of_row _ _ _ _ _ _ b1]; rfl
  have p1 : w1.cell? ⟨w.heap.size + 1, 1, none⟩ = some (.int .i64 0) := by rw [cell_of_row _ _ _ _ _ _ b1]; rfl
  have p2 : w1.cell? ⟨w.heap.size + 1, 2, none⟩ = some (.int .i64 0) := by rw [cell_of_row _ _ _ _ _ _ b1]; rfl
  have p3 : w1.cell? ⟨w.heap.size + 1, 3, none⟩ = some (.int .i64 0) := by rw [cell_of_row _ _ _ _ _ _ b1]; rfl
  have q0 : w1.cell? ⟨w.heap.size + 1 + 1, 0, none⟩ = some (.string ByteArray.empty) := by rw [cell_of_row _ _ _ _ _ _ b2]; rfl
  have q1 : w1.cell? ⟨w.heap.size + 1 + 1, 1, none⟩ = some (.int .i64 0) := by rw [cell_of_row _ _ _ _ _ _ b2]; rfl
  have q2 : w1.cell? ⟨w.heap.size + 1 + 1, 2, none⟩ = some (.int .i64 0) := by rw [cell_of_row _ _ _ _ _ _ b2]; rfl
  have q3 : w1.cell? ⟨w.heap.size + 1 + 1, 3, none⟩ = some (.int .i64 0) := by rw [cell_of_row _ _ _ _ _ _ b2]; rfl
  have zp := frozen_blk b1
  have zq := frozen_blk b2
  have HB1 := hid b1
  clear hfr b1 b2 hnf1 hnf2
  go_wp2_with fail
  refine bodyPost_ret (v := ansV r1 0 0 r2) (results_cell_row Try.results6 _ _ _ _ _ _ _ rfl (Go.heap_setCell_same _ _ 3 _ _ _ (Go.heap_setCell_same _ _ 2 _ _ _ (Go.heap_setCell_same _ _ 1 _ _ _ (Go.heap_setCell_same _ _ 0 _ _ _ ((Below.heap_setCell _ _ _ _ (by simp)).trans ((Below.heap_setCell _ _ _ _ (by simp)).trans ((Below.heap_setCell _ _ _ _ (by simp)).trans ((Below.heap_setCell _ _ _ _ (by simp)).trans (HB1.out))))))))) Try.underlying29 rfl (by kernel_rfl)) rfl ⟨rfl, HFIN.out _ _ _ [w.heap.size + 1, w.heap.size + 1 + 1] HT.out (((Fr.refl [] w).alloc _).alloc _ |>.alloc _) ?_ (by simp; omega)⟩
  exact (((((((((Fr.refl [w.heap.size + 1, w.heap.size + 1 + 1] w1).set (.inl (by simp)) _).set (.inl (by simp)) _).set (.inl (by simp)) _).set (.inl (by simp)) _).set (.inl (by simp)) _).set (.inl (by simp)) _).set (.inl (by simp)) _).set (.inl (by simp)) _)


set_option maxRecDepth 20000 in
set_option maxHeartbeats 2000000 in
theorem gact_run (x : Nat) (P : Asn) (hP : Framed P) (f : List Nat) (b c : Int) (s : ByteArray) (w : World) (hwi : ∀ y ∈ f, y < w.heap.size) (r1 : Int) (r2 : Int) (r3 : Int)
    (hC : ∀ W, Fr [] w W → Calls Try.prog 18 #[.pointer (some ⟨x, 0, none⟩), .int .i64 b, .int .i64 c] W fun e w' => e = .returned (.tuple #[.int .i64 r1, .int .i64 r2, .int .i64 r3]) ∧ ATo P f W w') :
    Calls Try.prog 6 #[.pointer (some ⟨x, 0, none⟩), actV 8 b c s] w fun e w' => e = .returned (ansV ByteArray.empty r1 r2 r3) ∧ ATo P f w w' := by
  have HC := hid hC
  have HFIN : Hid (∀ W w1 w2 S, ATo P f W w1 → Fr [] w W → Fr S w1 w2 → (∀ y ∈ S, w.heap.size ≤ y ∧ y < W.heap.size) → ATo P f w w2) := hid (fun W w1 w2 S h1 h0 k hS => h1.scratch hP h0 hwi k hS)
  have hnf1 : w.heap.size + 1 ∉ f := fun e => by have := hwi _ e; omega
  have hnf2 : w.heap.size + 1 + 1 ∉ f := fun e => by have := hwi _ e; omega
  clear hC hwi
  go_enter Try.func6, Try.ntmps6
  go_wp2_with fail
  go_at_call 18
  refine (HC.out _ (((Fr.refl [] w).alloc _).alloc _ |>.alloc _)).mono ?_
  rintro e w1 ⟨rfl, ht⟩
  have HT := hid ht
  obtain ⟨_, _, _, _, hfr⟩ := ht
  have b1 : w1.heap[w.heap.size + 1]? = some (.cells #[.string ByteArray.empty, .int .i64 0, .int .i64 0, .int .i64 0] 29 (0, 0)) := (hfr.block _ (by simp) hnf1).trans ((Below.heap_alloc _ _ _ (by simp)).trans (heap_alloc_at (by simp)))
  have b2 : w1.heap[w.heap.size + 1 + 1]? = some (.cells #[.string ByteArray.empty, .int .i64 0, .int .i64 0, .int .i64 0] 29 (0, 0)) := (hfr.block _ (by simp) hnf2).trans (heap_alloc_at (by simp))
  have p0 : w1.cell? ⟨w.heap.size + 1, 0, none⟩ = some (.string ByteArray.empty) := by rw [cell_of_row _ _ _ _ _ _ b1]; rfl
  have p1 : w1.cell? ⟨w.heap.size + 1, 1, none⟩ = some (.int .i64 0) := by rw [cell_of_row _ _ _ _ _ _ b1]; rfl
  have p2 : w1.cell? ⟨w.heap.size + 1, 2, none⟩ = some (.int .i64 0) := by rw [cell_of_row _ _ _ _ _ _ b1]; rfl
  have p3 : w1.cell? ⟨w.heap.size + 1, 3, none⟩ = some (.int .i64 0) := by rw [cell_of_row _ _ _ _ _ _ b1]; rfl
  have q0 : w1.cell? ⟨w.heap.size + 1 + 1, 0, none⟩ = some (.string ByteArray.empty) := by rw [cell_of_row _ _ _ _ _ _ b2]; rfl
  have q1 : w1.cell? ⟨w.heap.size + 1 + 1, 1, none⟩ = some (.int .i64 0) := by rw [cell_of_row _ _ _ _ _ _ b2]; rfl
  have q2 : w1.cell? ⟨w.heap.size + 1 + 1, 2, none⟩ = some (.int .i64 0) := by rw [cell_of_row _ _ _ _ _ _ b2]; rfl
  have q3 : w1.cell? ⟨w.heap.size + 1 + 1, 3, none⟩ = some (.int .i64 0) := by rw [cell_of_row _ _ _ _ _ _ b2]; rfl
  have zp := frozen_blk b1
  have zq := frozen_blk b2
  have HB1 := hid b1
  clear hfr b1 b2 hnf1 hnf2
  go_wp2_with fail
  refine bodyPost_ret (v := ansV ByteArray.empty r1 r2 r3) (results_cell_row Try.results6 _ _ _ _ _ _ _ rfl (Go.heap_setCell_same _ _ 3 _ _ _ (Go.heap_setCell_same _ _ 2 _ _ _ (Go.heap_setCell_same _ _ 1 _ _ _ (Go.heap_setCell_same _ _ 0 _ _ _ ((Below.heap_setCell _ _ _ _ (by simp)).trans ((Below.heap_setCell _ _ _ _ (by simp)).trans ((Below.heap_setCell _ _ _ _ (by simp)).trans ((Below.heap_setCell _ _ _ _ (by simp)).trans (HB1.out))))))))) Try.underlying29 rfl (by kernel_rfl)) rfl ⟨rfl, HFIN.out _ _ _ [w.heap.size + 1, w.heap.size + 1 + 1] HT.out (((Fr.refl [] w).alloc _).alloc _ |>.alloc _) ?_ (by simp; omega)⟩
  exact (((((((((Fr.refl [w.heap.size + 1, w.heap.size + 1 + 1] w1).set (.inl (by simp)) _).set (.inl (by simp)) _).set (.inl (by simp)) _).set (.inl (by simp)) _).set (.inl (by simp)) _).set (.inl (by simp)) _).set (.inl (by simp)) _).set (.inl (by simp)) _)


set_option maxRecDepth 20000 in
set_option maxHeartbeats 2000000 in
theorem gact_kept (x : Nat) (P : Asn) (hP : Framed P) (f : List Nat) (b c : Int) (s : ByteArray) (w : World) (hwi : ∀ y ∈ f, y < w.heap.size) (r : Int)
    (hC : ∀ W, Fr [] w W → Calls Try.prog 8 #[.pointer (some ⟨x, 0, none⟩)] W fun e w' => e = .returned (.int .i64 r) ∧ ATo P f W w') :
    Calls Try.prog 6 #[.pointer (some ⟨x, 0, none⟩), actV 9 b c s] w fun e w' => e = .returned (ansV ByteArray.empty r 0 0) ∧ ATo P f w w' := by
  have HC := hid hC
  have HFIN : Hid (∀ W w1 w2 S, ATo P f W w1 → Fr [] w W → Fr S w1 w2 → (∀ y ∈ S, w.heap.size ≤ y ∧ y < W.heap.size) → ATo P f w w2) := hid (fun W w1 w2 S h1 h0 k hS => h1.scratch hP h0 hwi k hS)
  have hnf1 : w.heap.size + 1 ∉ f := fun e => by have := hwi _ e; omega
  have hnf2 : w.heap.size + 1 + 1 ∉ f := fun e => by have := hwi _ e; omega
  clear hC hwi
  go_enter Try.func6, Try.ntmps6
  go_wp2_with fail
  go_at_call 8
  refine (HC.out _ (((Fr.refl [] w).alloc _).alloc _ |>.alloc _)).mono ?_
  rintro e w1 ⟨rfl, ht⟩
  have HT := hid ht
  obtain ⟨_, _, _, _, hfr⟩ := ht
  have b1 : w1.heap[w.heap.size + 1]? = some (.cells #[.string ByteArray.empty, .int .i64 0, .int .i64 0, .int .i64 0] 29 (0, 0)) := (hfr.block _ (by simp) hnf1).trans ((Below.heap_alloc _ _ _ (by simp)).trans (heap_alloc_at (by simp)))
  have b2 : w1.heap[w.heap.size + 1 + 1]? = some (.cells #[.string ByteArray.empty, .int .i64 0, .int .i64 0, .int .i64 0] 29 (0, 0)) := (hfr.block _ (by simp) hnf2).trans (heap_alloc_at (by simp))
  have p0 : w1.cell? ⟨w.heap.size + 1, 0, none⟩ = some (.string ByteArray.empty) := by rw [cell_of_row _ _ _ _ _ _ b1]; rfl
  have p1 : w1.cell? ⟨w.heap.size + 1, 1, none⟩ = some (.int .i64 0) := by rw [cell_of_row _ _ _ _ _ _ b1]; rfl
  have p2 : w1.cell? ⟨w.heap.size + 1, 2, none⟩ = some (.int .i64 0) := by rw [cell_of_row _ _ _ _ _ _ b1]; rfl
  have p3 : w1.cell? ⟨w.heap.size + 1, 3, none⟩ = some (.int .i64 0) := by rw [cell_of_row _ _ _ _ _ _ b1]; rfl
  have q0 : w1.cell? ⟨w.heap.size + 1 + 1, 0, none⟩ = some (.string ByteArray.empty) := by rw [cell_of_row _ _ _ _ _ _ b2]; rfl
  have q1 : w1.cell? ⟨w.heap.size + 1 + 1, 1, none⟩ = some (.int .i64 0) := by rw [cell_of_row _ _ _ _ _ _ b2]; rfl
  have q2 : w1.cell? ⟨w.heap.size + 1 + 1, 2, none⟩ = some (.int .i64 0) := by rw [cell_of_row _ _ _ _ _ _ b2]; rfl
  have q3 : w1.cell? ⟨w.heap.size + 1 + 1, 3, none⟩ = some (.int .i64 0) := by rw [cell_of_row _ _ _ _ _ _ b2]; rfl
  have zp := frozen_blk b1
  have zq := frozen_blk b2
  have HB1 := hid b1
  clear hfr b1 b2 hnf1 hnf2
  go_wp2_with fail
  refine bodyPost_ret (v := ansV ByteArray.empty r 0 0) (results_cell_row Try.results6 _ _ _ _ _ _ _ rfl (Go.heap_setCell_same _ _ 3 _ _ _ (Go.heap_setCell_same _ _ 2 _ _ _ (Go.heap_setCell_same _ _ 1 _ _ _ (Go.heap_setCell_same _ _ 0 _ _ _ ((Below.heap_setCell _ _ _ _ (by simp)).trans (HB1.out)))))) Try.underlying29 rfl (by kernel_rfl)) rfl ⟨rfl, HFIN.out _ _ _ [w.heap.size + 1, w.heap.size + 1 + 1] HT.out (((Fr.refl [] w).alloc _).alloc _ |>.alloc _) ?_ (by simp; omega)⟩
  exact ((((((Fr.refl [w.heap.size + 1, w.heap.size + 1 + 1] w1).set (.inl (by simp)) _).set (.inl (by simp)) _).set (.inl (by simp)) _).set (.inl (by simp)) _).set (.inl (by simp)) _)


set_option maxRecDepth 20000 in
set_option maxHeartbeats 2000000 in
theorem gact_sweep (x : Nat) (P : Asn) (hP : Framed P) (f : List Nat) (b c : Int) (s : ByteArray) (w : World) (hwi : ∀ y ∈ f, y < w.heap.size) (r : Int)
    (hC : ∀ W, Fr [] w W → Calls Try.prog 9 #[.pointer (some ⟨x, 0, none⟩)] W fun e w' => e = .returned (.int .i64 r) ∧ ATo P f W w') :
    Calls Try.prog 6 #[.pointer (some ⟨x, 0, none⟩), actV 10 b c s] w fun e w' => e = .returned (ansV ByteArray.empty r 0 0) ∧ ATo P f w w' := by
  have HC := hid hC
  have HFIN : Hid (∀ W w1 w2 S, ATo P f W w1 → Fr [] w W → Fr S w1 w2 → (∀ y ∈ S, w.heap.size ≤ y ∧ y < W.heap.size) → ATo P f w w2) := hid (fun W w1 w2 S h1 h0 k hS => h1.scratch hP h0 hwi k hS)
  have hnf1 : w.heap.size + 1 ∉ f := fun e => by have := hwi _ e; omega
  have hnf2 : w.heap.size + 1 + 1 ∉ f := fun e => by have := hwi _ e; omega
  clear hC hwi
  go_enter Try.func6, Try.ntmps6
  go_wp2_with fail
  go_at_call 9
  refine (HC.out _ (((Fr.refl [] w).alloc _).alloc _ |>.alloc _)).mono ?_
  rintro e w1 ⟨rfl, ht⟩
  have HT := hid ht
  obtain ⟨_, _, _, _, hfr⟩ := ht
  have b1 : w1.heap[w.heap.size + 1]? = some (.cells #[.string ByteArray.empty, .int .i64 0, .int .i64 0, .int .i64 0] 29 (0, 0)) := (hfr.block _ (by simp) hnf1).trans ((Below.heap_alloc _ _ _ (by simp)).trans (heap_alloc_at (by simp)))
  have b2 : w1.heap[w.heap.size + 1 + 1]? = some (.cells #[.string ByteArray.empty, .int .i64 0, .int .i64 0, .int .i64 0] 29 (0, 0)) := (hfr.block _ (by simp) hnf2).trans (heap_alloc_at (by simp))
  have p0 : w1.cell? ⟨w.heap.size + 1, 0, none⟩ = some (.string ByteArray.empty) := by rw [cell_of_row _ _ _ _ _ _ b1]; rfl
  have p1 : w1.cell? ⟨w.heap.size + 1, 1, none⟩ = some (.int .i64 0) := by rw [cell_of_row _ _ _ _ _ _ b1]; rfl
  have p2 : w1.cell? ⟨w.heap.size + 1, 2, none⟩ = some (.int .i64 0) := by rw [cell_of_row _ _ _ _ _ _ b1]; rfl
  have p3 : w1.cell? ⟨w.heap.size + 1, 3, none⟩ = some (.int .i64 0) := by rw [cell_of_row _ _ _ _ _ _ b1]; rfl
  have q0 : w1.cell? ⟨w.heap.size + 1 + 1, 0, none⟩ = some (.string ByteArray.empty) := by rw [cell_of_row _ _ _ _ _ _ b2]; rfl
  have q1 : w1.cell? ⟨w.heap.size + 1 + 1, 1, none⟩ = some (.int .i64 0) := by rw [cell_of_row _ _ _ _ _ _ b2]; rfl
  have q2 : w1.cell? ⟨w.heap.size + 1 + 1, 2, none⟩ = some (.int .i64 0) := by rw [cell_of_row _ _ _ _ _ _ b2]; rfl
  have q3 : w1.cell? ⟨w.heap.size + 1 + 1, 3, none⟩ = some (.int .i64 0) := by rw [cell_of_row _ _ _ _ _ _ b2]; rfl
  have zp := frozen_blk b1
  have zq := frozen_blk b2
  have HB1 := hid b1
  clear hfr b1 b2 hnf1 hnf2
  go_wp2_with fail
  refine bodyPost_ret (v := ansV ByteArray.empty r 0 0) (results_cell_row Try.results6 _ _ _ _ _ _ _ rfl (Go.heap_setCell_same _ _ 3 _ _ _ (Go.heap_setCell_same _ _ 2 _ _ _ (Go.heap_setCell_same _ _ 1 _ _ _ (Go.heap_setCell_same _ _ 0 _ _ _ ((Below.heap_setCell _ _ _ _ (by simp)).trans (HB1.out)))))) Try.underlying29 rfl (by kernel_rfl)) rfl ⟨rfl, HFIN.out _ _ _ [w.heap.size + 1, w.heap.size + 1 + 1] HT.out (((Fr.refl [] w).alloc _).alloc _ |>.alloc _) ?_ (by simp; omega)⟩
  exact ((((((Fr.refl [w.heap.size + 1, w.heap.size + 1 + 1] w1).set (.inl (by simp)) _).set (.inl (by simp)) _).set (.inl (by simp)) _).set (.inl (by simp)) _).set (.inl (by simp)) _)


set_option maxRecDepth 20000 in
set_option maxHeartbeats 2000000 in
/-- An act of another kind does nothing. -/
theorem gact_none (x : Nat) (P : Asn) (hP : Framed P) (f : List Nat) (kd b c : Int) (s : ByteArray) (w : World) (h0 : P w f) (hn : f.Nodup) (hk : kd < 1 ∨ 10 < kd) :
    Calls Try.prog 6 #[.pointer (some ⟨x, 0, none⟩), actV kd b c s] w fun e w' => e = .returned (ansV ByteArray.empty 0 0 0) ∧ ATo P f w w' := by
  have HFIN : Hid (∀ w2, Fr [] w w2 → ATo P f w w2) := hid (fun w2 r => ⟨f, hP h0 r (by simp), hn, fun _ hy => .inl hy, r.mono (fun k hk => by cases hk)⟩)
  have e1 : kd ≠ 1 := by omega
  have e2 : kd ≠ 2 := by omega
  have e3 : kd ≠ 3 := by omega
  have e4 : kd ≠ 4 := by omega
  have e5 : kd ≠ 5 := by omega
  have e6 : kd ≠ 6 := by omega
  have e7 : kd ≠ 7 := by omega
  have e8 : kd ≠ 8 := by omega
  have e9 : kd ≠ 9 := by omega
  have e10 : kd ≠ 10 := by omega
  clear hk h0
  go_enter Try.func6, Try.ntmps6
  go_wp2_with fail
  refine bodyPost_ret (v := ansV ByteArray.empty 0 0 0) (results_cell_row Try.results6 _ _ _ _ _ _ _ rfl ((Below.heap_alloc _ _ _ (by simp)).trans (heap_alloc_at (by simp))) Try.underlying29 rfl (by kernel_rfl)) rfl ⟨rfl, HFIN.out _ (((Fr.refl [] w).alloc _).alloc _ |>.alloc _)⟩

end Go.Proofs.Ythlhbjnkohinmab
