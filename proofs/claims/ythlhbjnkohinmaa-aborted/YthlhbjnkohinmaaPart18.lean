import Derived.Test.YthlhbjnkohinmaaPart17
/- The statements without the document's answer: an act. (Written by program: wip/tools/mk_keep1.py.) -/
namespace Go.Proofs.Ythlhbjnkohinmaa
open Go.RowKit

theorem ATo.scratch {P : Asn} (hP : Framed P) {f S : List Nat} {w W w1 w2 : World} (h : ATo P f W w1) (h0 : Fr [] w W) (hf : ∀ x ∈ f, x < w.heap.size) (k : Fr S w1 w2) (hS : ∀ y ∈ S, w.heap.size ≤ y ∧ y < W.heap.size) : ATo P f w w2 := by
  obtain ⟨f', a, n, s, r⟩ := h
  have hno : ∀ x ∈ f', x ∉ S := fun x hx e => by
    have h1 := hS x e
    rcases s x hx with h | h
    · have := hf x h; omega
    · omega
  refine ⟨f', hP a k hno, n, fun x hx => ?_, ?_⟩
  · rcases s x hx with h | h
    · exact .inl h
    · exact .inr (Nat.le_trans h0.size h)
  · have r1 : Fr f w w1 := (h0.mono (fun k hk => by cases hk)).trans r
    exact fr_then r1 k (fun x hx => .inr (hS x hx).1)

theorem heap_alloc_at {w : World} {o : Obj} {n : Nat} (h : n = w.heap.size) : (w.alloc o).heap[n]? = some o := by subst h; exact heap_alloc_new w o

/-- An act, as a value. -/
abbrev actV (k b c : Int) (s : ByteArray) : Value := .agg #[.int .i64 k, .int .i64 b, .int .i64 c, .string s]
abbrev ansV (s : ByteArray) (n m e : Int) : Value := .agg #[.string s, .int .i64 n, .int .i64 m, .int .i64 e]

set_option maxRecDepth 20000 in
set_option maxHeartbeats 2000000 in
theorem act_put (x : Nat) (X : PEng) (f : List Nat) (b c : Int) (s : ByteArray) (w : World) (h : PEngA x X w f) (hn : f.Nodup) (hs63 : s.size < 9223372036854775808) (hm : ∀ k, findP X b = some k → (X.ses k).more) :
    Calls Try.prog 16 #[.pointer (some ⟨x, 0, none⟩), actV 2 b c s] w fun e w' => e = .returned (ansV ByteArray.empty 0 0 (pputF X b s).1) ∧ ATo (PEngA x (pputF X b s).2) f w w' := by
  have hwi := PEngA.within _ _ h
  have HC : Hid (∀ W, Fr [] w W → Calls Try.prog 34 #[.pointer (some ⟨x, 0, none⟩), .int .i64 b, .string s] W fun e w' => e = .returned (.int .i64 (pputF X b s).1) ∧ ATo (PEngA x (pputF X b s).2) f W w') := hid (fun W hW => pput_to x X f b s W (PEngA.framed _ _ h hW (by simp)) hn hs63 hm)
  have HFIN : Hid (∀ W w1 w2 S, ATo (PEngA x (pputF X b s).2) f W w1 → Fr [] w W → Fr S w1 w2 → (∀ y ∈ S, w.heap.size ≤ y ∧ y < W.heap.size) → ATo (PEngA x (pputF X b s).2) f w w2) := hid (fun W w1 w2 S h1 h0 k hS => h1.scratch (PEngA.framed _ _) h0 hwi k hS)
  have hnf1 : w.heap.size + 1 ∉ f := fun e => by have := hwi _ e; omega
  have hnf2 : w.heap.size + 1 + 1 ∉ f := fun e => by have := hwi _ e; omega
  obtain ⟨r, hr⟩ : ∃ r, r = (pputF X b s).1 := ⟨_, rfl⟩
  rw [← hr] at HC ⊢
  clear hr
  clear h hn hwi
  go_enter Try.func16, Try.ntmps16
  go_wp2_with fail
  go_at_call 34
  refine (HC.out _ (((Fr.refl [] w).alloc _).alloc _ |>.alloc _)).mono ?_
  rintro e w1 ⟨rfl, ht⟩
  have HT := hid ht
  obtain ⟨_, _, _, _, hfr⟩ := ht
  have b1 : w1.heap[w.heap.size + 1]? = some (.cells #[.string ByteArray.empty, .int .i64 0, .int .i64 0, .int .i64 0] 44 (0, 0)) := (hfr.block _ (by simp) hnf1).trans ((Below.heap_alloc _ _ _ (by simp)).trans (heap_alloc_at (by simp)))
  have b2 : w1.heap[w.heap.size + 1 + 1]? = some (.cells #[.string ByteArray.empty, .int .i64 0, .int .i64 0, .int .i64 0] 44 (0, 0)) := (hfr.block _ (by simp) hnf2).trans (heap_alloc_at (by simp))
  have p0 : w1.cell? ⟨w.heap.size + 1, 0, none⟩ = some (.string ByteArray.empty) := by rw [cell_of_row _ _ _ _ _ _ b1]; rfl
  have p1 : w1.cell? ⟨w.heap.size + 1, 1, none⟩ = some (.int .i64 0) := by rw [cell_of_row _ _ _ _ _ _ b1]; rfl
  have p2 : w1.cell? ⟨w.heap.size + 1, 2, none⟩ = some (.int .i64 0) := by rw [cell_of_row _ _ _ _ _ _ b1]; rfl
  have p3 : w1.cell? ⟨w.heap.size + 1, 3, none⟩ = some (.int .i64 0) := by rw [cell_of_row _ _ _ _ _ _ b1]; rfl
  have q0 : w1.cell? ⟨w.heap.size + 1 + 1, 0, none⟩ = some (.string ByteArray.empty) := by rw [cell_of_row _ _ _ _ _ _ b2]; rfl
  have q1 : w1.cell? ⟨w.heap.size + 1 + 1, 1, none⟩ = some (.int .i64 0) := by rw [cell_of_row _ _ _ _ _ _ b2]; rfl
  have q2 : w1.cell? ⟨w.heap.size + 1 + 1, 2, none⟩ = some (.int .i64 0) := by rw [cell_of_row _ _ _ _ _ _ b2]; rfl
  have q3 : w1.cell? ⟨w.heap.size + 1 + 1, 3, none⟩ = some (.int .i64 0) := by rw [cell_of_row _ _ _ _ _ _ b2]; rfl
  have zp := frozen_blk b1
  have zq := frozen_blk b2
  have HB1 := hid b1
  clear hfr b1 b2 hnf1 hnf2
  go_wp2_with fail
  refine bodyPost_ret (v := ansV ByteArray.empty 0 0 r) (results_cell_row Try.results16 _ _ _ _ _ _ _ rfl (Go.heap_setCell_same _ _ 3 _ _ _ (Go.heap_setCell_same _ _ 2 _ _ _ (Go.heap_setCell_same _ _ 1 _ _ _ (Go.heap_setCell_same _ _ 0 _ _ _ ((Below.heap_setCell _ _ _ _ (by simp)).trans (HB1.out)))))) Try.underlying44 rfl (by kernel_rfl)) rfl ⟨rfl, HFIN.out _ _ _ [w.heap.size + 1, w.heap.size + 1 + 1] HT.out (((Fr.refl [] w).alloc _).alloc _ |>.alloc _) ?_ (by simp; omega)⟩
  exact ((((((Fr.refl [w.heap.size + 1, w.heap.size + 1 + 1] w1).set (.inl (by simp)) _).set (.inl (by simp)) _).set (.inl (by simp)) _).set (.inl (by simp)) _).set (.inl (by simp)) _)

set_option maxRecDepth 20000 in
set_option maxHeartbeats 2000000 in
theorem act_clear (x : Nat) (X : PEng) (f : List Nat) (b c : Int) (s : ByteArray) (w : World) (h : PEngA x X w f) (hn : f.Nodup) (hs63 : s.size < 9223372036854775808) (hm : ∀ k, findP X b = some k → (X.ses k).more) :
    Calls Try.prog 16 #[.pointer (some ⟨x, 0, none⟩), actV 3 b c s] w fun e w' => e = .returned (ansV ByteArray.empty 0 0 (pclearF X b s).1) ∧ ATo (PEngA x (pclearF X b s).2) f w w' := by
  have hwi := PEngA.within _ _ h
  have HC : Hid (∀ W, Fr [] w W → Calls Try.prog 35 #[.pointer (some ⟨x, 0, none⟩), .int .i64 b, .string s] W fun e w' => e = .returned (.int .i64 (pclearF X b s).1) ∧ ATo (PEngA x (pclearF X b s).2) f W w') := hid (fun W hW => pclear_to x X f b s W (PEngA.framed _ _ h hW (by simp)) hn hs63 hm)
  have HFIN : Hid (∀ W w1 w2 S, ATo (PEngA x (pclearF X b s).2) f W w1 → Fr [] w W → Fr S w1 w2 → (∀ y ∈ S, w.heap.size ≤ y ∧ y < W.heap.size) → ATo (PEngA x (pclearF X b s).2) f w w2) := hid (fun W w1 w2 S h1 h0 k hS => h1.scratch (PEngA.framed _ _) h0 hwi k hS)
  have hnf1 : w.heap.size + 1 ∉ f := fun e => by have := hwi _ e; omega
  have hnf2 : w.heap.size + 1 + 1 ∉ f := fun e => by have := hwi _ e; omega
  obtain ⟨r, hr⟩ : ∃ r, r = (pclearF X b s).1 := ⟨_, rfl⟩
  rw [← hr] at HC ⊢
  clear hr
  clear h hn hwi
  go_enter Try.func16, Try.ntmps16
  go_wp2_with fail
  go_at_call 35
  refine (HC.out _ (((Fr.refl [] w).alloc _).alloc _ |>.alloc _)).mono ?_
  rintro e w1 ⟨rfl, ht⟩
  have HT := hid ht
  obtain ⟨_, _, _, _, hfr⟩ := ht
  have b1 : w1.heap[w.heap.size + 1]? = some (.cells #[.string ByteArray.empty, .int .i64 0, .int .i64 0, .int .i64 0] 44 (0, 0)) := (hfr.block _ (by simp) hnf1).trans ((Below.heap_alloc _ _ _ (by simp)).trans (heap_alloc_at (by simp)))
  have b2 : w1.heap[w.heap.size + 1 + 1]? = some (.cells #[.string ByteArray.empty, .int .i64 0, .int .i64 0, .int .i64 0] 44 (0, 0)) := (hfr.block _ (by simp) hnf2).trans (heap_alloc_at (by simp))
  have p0 : w1.cell? ⟨w.heap.size + 1, 0, none⟩ = some (.string ByteArray.empty) := by rw [cell_of_row _ _ _ _ _ _ b1]; rfl
  have p1 : w1.cell? ⟨w.heap.size + 1, 1, none⟩ = some (.int .i64 0) := by rw [cell_of_row _ _ _ _ _ _ b1]; rfl
  have p2 : w1.cell? ⟨w.heap.size + 1, 2, none⟩ = some (.int .i64 0) := by rw [cell_of_row _ _ _ _ _ _ b1]; rfl
  have p3 : w1.cell? ⟨w.heap.size + 1, 3, none⟩ = some (.int .i64 0) := by rw [cell_of_row _ _ _ _ _ _ b1]; rfl
  have q0 : w1.cell? ⟨w.heap.size + 1 + 1, 0, none⟩ = some (.string ByteArray.empty) := by rw [cell_of_row _ _ _ _ _ _ b2]; rfl
  have q1 : w1.cell? ⟨w.heap.size + 1 + 1, 1, none⟩ = some (.int .i64 0) := by rw [cell_of_row _ _ _ _ _ _ b2]; rfl
  have q2 : w1.cell? ⟨w.heap.size + 1 + 1, 2, none⟩ = some (.int .i64 0) := by rw [cell_of_row _ _ _ _ _ _ b2]; rfl
  have q3 : w1.cell? ⟨w.heap.size + 1 + 1, 3, none⟩ = some (.int .i64 0) := by rw [cell_of_row _ _ _ _ _ _ b2]; rfl
  have zp := frozen_blk b1
  have zq := frozen_blk b2
  have HB1 := hid b1
  clear hfr b1 b2 hnf1 hnf2
  go_wp2_with fail
  refine bodyPost_ret (v := ansV ByteArray.empty 0 0 r) (results_cell_row Try.results16 _ _ _ _ _ _ _ rfl (Go.heap_setCell_same _ _ 3 _ _ _ (Go.heap_setCell_same _ _ 2 _ _ _ (Go.heap_setCell_same _ _ 1 _ _ _ (Go.heap_setCell_same _ _ 0 _ _ _ ((Below.heap_setCell _ _ _ _ (by simp)).trans (HB1.out)))))) Try.underlying44 rfl (by kernel_rfl)) rfl ⟨rfl, HFIN.out _ _ _ [w.heap.size + 1, w.heap.size + 1 + 1] HT.out (((Fr.refl [] w).alloc _).alloc _ |>.alloc _) ?_ (by simp; omega)⟩
  exact ((((((Fr.refl [w.heap.size + 1, w.heap.size + 1 + 1] w1).set (.inl (by simp)) _).set (.inl (by simp)) _).set (.inl (by simp)) _).set (.inl (by simp)) _).set (.inl (by simp)) _)

set_option maxRecDepth 20000 in
set_option maxHeartbeats 2000000 in
theorem act_abort (x : Nat) (X : PEng) (f : List Nat) (b c : Int) (s : ByteArray) (w : World) (h : PEngA x X w f) (hn : f.Nodup) :
    Calls Try.prog 16 #[.pointer (some ⟨x, 0, none⟩), actV 5 b c s] w fun e w' => e = .returned (ansV ByteArray.empty 0 0 (pabortF X b).1) ∧ ATo (PEngA x (pabortF X b).2) f w w' := by
  have hwi := PEngA.within _ _ h
  have HC : Hid (∀ W, Fr [] w W → Calls Try.prog 23 #[.pointer (some ⟨x, 0, none⟩), .int .i64 b] W fun e w' => e = .returned (.int .i64 (pabortF X b).1) ∧ ATo (PEngA x (pabortF X b).2) f W w') := hid (fun W hW => pabort_to x X f b W (PEngA.framed _ _ h hW (by simp)) hn)
  have HFIN : Hid (∀ W w1 w2 S, ATo (PEngA x (pabortF X b).2) f W w1 → Fr [] w W → Fr S w1 w2 → (∀ y ∈ S, w.heap.size ≤ y ∧ y < W.heap.size) → ATo (PEngA x (pabortF X b).2) f w w2) := hid (fun W w1 w2 S h1 h0 k hS => h1.scratch (PEngA.framed _ _) h0 hwi k hS)
  have hnf1 : w.heap.size + 1 ∉ f := fun e => by have := hwi _ e; omega
  have hnf2 : w.heap.size + 1 + 1 ∉ f := fun e => by have := hwi _ e; omega
  obtain ⟨r, hr⟩ : ∃ r, r = (pabortF X b).1 := ⟨_, rfl⟩
  rw [← hr] at HC ⊢
  clear hr
  clear h hn hwi
  go_enter Try.func16, Try.ntmps16
  go_wp2_with fail
  go_at_call 23
  refine (HC.out _ (((Fr.refl [] w).alloc _).alloc _ |>.alloc _)).mono ?_
  rintro e w1 ⟨rfl, ht⟩
  have HT := hid ht
  obtain ⟨_, _, _, _, hfr⟩ := ht
  have b1 : w1.heap[w.heap.size + 1]? = some (.cells #[.string ByteArray.empty, .int .i64 0, .int .i64 0, .int .i64 0] 44 (0, 0)) := (hfr.block _ (by simp) hnf1).trans ((Below.heap_alloc _ _ _ (by simp)).trans (heap_alloc_at (by simp)))
  have b2 : w1.heap[w.heap.size + 1 + 1]? = some (.cells #[.string ByteArray.empty, .int .i64 0, .int .i64 0, .int .i64 0] 44 (0, 0)) := (hfr.block _ (by simp) hnf2).trans (heap_alloc_at (by simp))
  have p0 : w1.cell? ⟨w.heap.size + 1, 0, none⟩ = some (.string ByteArray.empty) := by rw [cell_of_row _ _ _ _ _ _ b1]; rfl
  have p1 : w1.cell? ⟨w.heap.size + 1, 1, none⟩ = some (.int .i64 0) := by rw [cell_of_row _ _ _ _ _ _ b1]; rfl
  have p2 : w1.cell? ⟨w.heap.size + 1, 2, none⟩ = some (.int .i64 0) := by rw [cell_of_row _ _ _ _ _ _ b1]; rfl
  have p3 : w1.cell? ⟨w.heap.size + 1, 3, none⟩ = some (.int .i64 0) := by rw [cell_of_row _ _ _ _ _ _ b1]; rfl
  have q0 : w1.cell? ⟨w.heap.size + 1 + 1, 0, none⟩ = some (.string ByteArray.empty) := by rw [cell_of_row _ _ _ _ _ _ b2]; rfl
  have q1 : w1.cell? ⟨w.heap.size + 1 + 1, 1, none⟩ = some (.int .i64 0) := by rw [cell_of_row _ _ _ _ _ _ b2]; rfl
  have q2 : w1.cell? ⟨w.heap.size + 1 + 1, 2, none⟩ = some (.int .i64 0) := by rw [cell_of_row _ _ _ _ _ _ b2]; rfl
  have q3 : w1.cell? ⟨w.heap.size + 1 + 1, 3, none⟩ = some (.int .i64 0) := by rw [cell_of_row _ _ _ _ _ _ b2]; rfl
  have zp := frozen_blk b1
  have zq := frozen_blk b2
  have HB1 := hid b1
  clear hfr b1 b2 hnf1 hnf2
  go_wp2_with fail
  refine bodyPost_ret (v := ansV ByteArray.empty 0 0 r) (results_cell_row Try.results16 _ _ _ _ _ _ _ rfl (Go.heap_setCell_same _ _ 3 _ _ _ (Go.heap_setCell_same _ _ 2 _ _ _ (Go.heap_setCell_same _ _ 1 _ _ _ (Go.heap_setCell_same _ _ 0 _ _ _ ((Below.heap_setCell _ _ _ _ (by simp)).trans (HB1.out)))))) Try.underlying44 rfl (by kernel_rfl)) rfl ⟨rfl, HFIN.out _ _ _ [w.heap.size + 1, w.heap.size + 1 + 1] HT.out (((Fr.refl [] w).alloc _).alloc _ |>.alloc _) ?_ (by simp; omega)⟩
  exact ((((((Fr.refl [w.heap.size + 1, w.heap.size + 1 + 1] w1).set (.inl (by simp)) _).set (.inl (by simp)) _).set (.inl (by simp)) _).set (.inl (by simp)) _).set (.inl (by simp)) _)

set_option maxRecDepth 20000 in
set_option maxHeartbeats 2000000 in
theorem act_commit (x : Nat) (X : PEng) (f : List Nat) (b c : Int) (s : ByteArray) (w : World) (h : PEngA x X w f) (hn : f.Nodup) (hlat : 0 ≤ X.latest ∧ X.latest < 9223372036854775807) (hl : ∀ c, c < 60 → ((X.hist c).length + 1) * 24 ≤ 140737488355328) (hr : ∀ k, findP X b = some k → ((keptN X 60 + writN (X.ses k) 60 : Nat) : Int) ≤ X.room) (hm : X.room ≤ 999) :
    Calls Try.prog 16 #[.pointer (some ⟨x, 0, none⟩), actV 6 b c s] w fun e w' => e = .returned (ansV ByteArray.empty (pcommitF X b).1.1 0 (pcommitF X b).1.2) ∧ ATo (PEngA x (pcommitF X b).2) f w w' := by
  have hwi := PEngA.within _ _ h
  have HC : Hid (∀ W, Fr [] w W → Calls Try.prog 36 #[.pointer (some ⟨x, 0, none⟩), .int .i64 b] W fun e w' => e = .returned (.tuple #[.int .i64 (pcommitF X b).1.1, .int .i64 (pcommitF X b).1.2]) ∧ ATo (PEngA x (pcommitF X b).2) f W w') := hid (fun W hW => pcommit_any x X f b W (PEngA.framed _ _ h hW (by simp)) hn hlat hl hr hm)
  have HFIN : Hid (∀ W w1 w2 S, ATo (PEngA x (pcommitF X b).2) f W w1 → Fr [] w W → Fr S w1 w2 → (∀ y ∈ S, w.heap.size ≤ y ∧ y < W.heap.size) → ATo (PEngA x (pcommitF X b).2) f w w2) := hid (fun W w1 w2 S h1 h0 k hS => h1.scratch (PEngA.framed _ _) h0 hwi k hS)
  have hnf1 : w.heap.size + 1 ∉ f := fun e => by have := hwi _ e; omega
  have hnf2 : w.heap.size + 1 + 1 ∉ f := fun e => by have := hwi _ e; omega
  obtain ⟨r1, hr1⟩ : ∃ r1, r1 = (pcommitF X b).1.1 := ⟨_, rfl⟩
  obtain ⟨r2, hr2⟩ : ∃ r2, r2 = (pcommitF X b).1.2 := ⟨_, rfl⟩
  rw [← hr1, ← hr2] at HC ⊢
  clear hr1 hr2
  clear h hn hwi
  go_enter Try.func16, Try.ntmps16
  go_wp2_with fail
  go_at_call 36
  refine (HC.out _ (((Fr.refl [] w).alloc _).alloc _ |>.alloc _)).mono ?_
  rintro e w1 ⟨rfl, ht⟩
  have HT := hid ht
  obtain ⟨_, _, _, _, hfr⟩ := ht
  have b1 : w1.heap[w.heap.size + 1]? = some (.cells #[.string ByteArray.empty, .int .i64 0, .int .i64 0, .int .i64 0] 44 (0, 0)) := (hfr.block _ (by simp) hnf1).trans ((Below.heap_alloc _ _ _ (by simp)).trans (heap_alloc_at (by simp)))
  have b2 : w1.heap[w.heap.size + 1 + 1]? = some (.cells #[.string ByteArray.empty, .int .i64 0, .int .i64 0, .int .i64 0] 44 (0, 0)) := (hfr.block _ (by simp) hnf2).trans (heap_alloc_at (by simp))
  have p0 : w1.cell? ⟨w.heap.size + 1, 0, none⟩ = some (.string ByteArray.empty) := by rw [cell_of_row _ _ _ _ _ _ b1]; rfl
  have p1 : w1.cell? ⟨w.heap.size + 1, 1, none⟩ = some (.int .i64 0) := by rw [cell_of_row _ _ _ _ _ _ b1]; rfl
  have p2 : w1.cell? ⟨w.heap.size + 1, 2, none⟩ = some (.int .i64 0) := by rw [cell_of_row _ _ _ _ _ _ b1]; rfl
  have p3 : w1.cell? ⟨w.heap.size + 1, 3, none⟩ = some (.int .i64 0) := by rw [cell_of_row _ _ _ _ _ _ b1]; rfl
  have q0 : w1.cell? ⟨w.heap.size + 1 + 1, 0, none⟩ = some (.string ByteArray.empty) := by rw [cell_of_row _ _ _ _ _ _ b2]; rfl
  have q1 : w1.cell? ⟨w.heap.size + 1 + 1, 1, none⟩ = some (.int .i64 0) := by rw [cell_of_row _ _ _ _ _ _ b2]; rfl
  have q2 : w1.cell? ⟨w.heap.size + 1 + 1, 2, none⟩ = some (.int .i64 0) := by rw [cell_of_row _ _ _ _ _ _ b2]; rfl
  have q3 : w1.cell? ⟨w.heap.size + 1 + 1, 3, none⟩ = some (.int .i64 0) := by rw [cell_of_row _ _ _ _ _ _ b2]; rfl
  have zp := frozen_blk b1
  have zq := frozen_blk b2
  have HB1 := hid b1
  clear hfr b1 b2 hnf1 hnf2
  go_wp2_with fail
  refine bodyPost_ret (v := ansV ByteArray.empty r1 0 r2) (results_cell_row Try.results16 _ _ _ _ _ _ _ rfl (Go.heap_setCell_same _ _ 3 _ _ _ (Go.heap_setCell_same _ _ 2 _ _ _ (Go.heap_setCell_same _ _ 1 _ _ _ (Go.heap_setCell_same _ _ 0 _ _ _ ((Below.heap_setCell _ _ _ _ (by simp)).trans ((Below.heap_setCell _ _ _ _ (by simp)).trans ((Below.heap_setCell _ _ _ _ (by simp)).trans ((Below.heap_setCell _ _ _ _ (by simp)).trans (HB1.out))))))))) Try.underlying44 rfl (by kernel_rfl)) rfl ⟨rfl, HFIN.out _ _ _ [w.heap.size + 1, w.heap.size + 1 + 1] HT.out (((Fr.refl [] w).alloc _).alloc _ |>.alloc _) ?_ (by simp; omega)⟩
  exact (((((((((Fr.refl [w.heap.size + 1, w.heap.size + 1 + 1] w1).set (.inl (by simp)) _).set (.inl (by simp)) _).set (.inl (by simp)) _).set (.inl (by simp)) _).set (.inl (by simp)) _).set (.inl (by simp)) _).set (.inl (by simp)) _).set (.inl (by simp)) _)

end Go.Proofs.Ythlhbjnkohinmaa

/- The statements without the document's answer: an act of any kind. (Written by program: wip/tools/mk_act.py.) -/
namespace Go.Proofs.Ythlhbjnkohinmaa
open Go.RowKit

set_option maxRecDepth 20000 in
set_option maxHeartbeats 2000000 in
theorem gact_open (x : Nat) (P : Asn) (hP : Framed P) (f : List Nat) (b c : Int) (s : ByteArray) (w : World) (hwi : ∀ y ∈ f, y < w.heap.size) (r1 : Int) (r2 : Int)
    (hC : ∀ W, Fr [] w W → Calls Try.prog 13 #[.pointer (some ⟨x, 0, none⟩)] W fun e w' => e = .returned (.tuple #[.int .i64 r1, .int .i64 r2]) ∧ ATo P f W w') :
    Calls Try.prog 16 #[.pointer (some ⟨x, 0, none⟩), actV 1 b c s] w fun e w' => e = .returned (ansV ByteArray.empty r1 0 r2) ∧ ATo P f w w' := by
  have HC := hid hC
  have HFIN : Hid (∀ W w1 w2 S, ATo P f W w1 → Fr [] w W → Fr S w1 w2 → (∀ y ∈ S, w.heap.size ≤ y ∧ y < W.heap.size) → ATo P f w w2) := hid (fun W w1 w2 S h1 h0 k hS => h1.scratch hP h0 hwi k hS)
  have hnf1 : w.heap.size + 1 ∉ f := fun e => by have := hwi _ e; omega
  have hnf2 : w.heap.size + 1 + 1 ∉ f := fun e => by have := hwi _ e; omega
  clear hC hwi
  go_enter Try.func16, Try.ntmps16
  go_wp2_with fail
  go_at_call 13
  refine (HC.out _ (((Fr.refl [] w).alloc _).alloc _ |>.alloc _)).mono ?_
  rintro e w1 ⟨rfl, ht⟩
  have HT := hid ht
  obtain ⟨_, _, _, _, hfr⟩ := ht
  have b1 : w1.heap[w.heap.size + 1]? = some (.cells #[.string ByteArray.empty, .int .i64 0, .int .i64 0, .int .i64 0] 44 (0, 0)) := (hfr.block _ (by simp) hnf1).trans ((Below.heap_alloc _ _ _ (by simp)).trans (heap_alloc_at (by simp)))
  have b2 : w1.heap[w.heap.size + 1 + 1]? = some (.cells #[.string ByteArray.empty, .int .i64 0, .int .i64 0, .int .i64 0] 44 (0, 0)) := (hfr.block _ (by simp) hnf2).trans (heap_alloc_at (by simp))
  have p0 : w1.cell? ⟨w.heap.size + 1, 0, none⟩ = some (.string ByteArray.empty) := by rw [cell_of_row _ _ _ _ _ _ b1]; rfl
  have p1 : w1.cell? ⟨w.heap.size + 1, 1, none⟩ = some (.int .i64 0) := by rw [cell_of_row _ _ _ _ _ _ b1]; rfl
  have p2 : w1.cell? ⟨w.heap.size + 1, 2, none⟩ = some (.int .i64 0) := by rw [cell_of_row _ _ _ _ _ _ b1]; rfl
  have p3 : w1.cell? ⟨w.heap.size + 1, 3, none⟩ = some (.int .i64 0) := by rw [cell_of_row _ _ _ _ _ _ b1]; rfl
  have q0 : w1.cell? ⟨w.heap.size + 1 + 1, 0, none⟩ = some (.string ByteArray.empty) := by rw [cell_of_row _ _ _ _ _ _ b2]; rfl
  have q1 : w1.cell? ⟨w.heap.size + 1 + 1, 1, none⟩ = some (.int .i64 0) := by rw [cell_of_row _ _ _ _ _ _ b2]; rfl
  have q2 : w1.cell? ⟨w.heap.size + 1 + 1, 2, none⟩ = some (.int .i64 0) := by rw [cell_of_row _ _ _ _ _ _ b2]; rfl
  have q3 : w1.cell? ⟨w.heap.size + 1 + 1, 3, none⟩ = some (.int .i64 0) := by rw [cell_of_row _ _ _ _ _ _ b2]; rfl
  have zp := frozen_blk b1
  have zq := frozen_blk b2
  have HB1 := hid b1
  clear hfr b1 b2 hnf1 hnf2
  go_wp2_with fail
  refine bodyPost_ret (v := ansV ByteArray.empty r1 0 r2) (results_cell_row Try.results16 _ _ _ _ _ _ _ rfl (Go.heap_setCell_same _ _ 3 _ _ _ (Go.heap_setCell_same _ _ 2 _ _ _ (Go.heap_setCell_same _ _ 1 _ _ _ (Go.heap_setCell_same _ _ 0 _ _ _ ((Below.heap_setCell _ _ _ _ (by simp)).trans ((Below.heap_setCell _ _ _ _ (by simp)).trans ((Below.heap_setCell _ _ _ _ (by simp)).trans ((Below.heap_setCell _ _ _ _ (by simp)).trans (HB1.out))))))))) Try.underlying44 rfl (by kernel_rfl)) rfl ⟨rfl, HFIN.out _ _ _ [w.heap.size + 1, w.heap.size + 1 + 1] HT.out (((Fr.refl [] w).alloc _).alloc _ |>.alloc _) ?_ (by simp; omega)⟩
  exact (((((((((Fr.refl [w.heap.size + 1, w.heap.size + 1 + 1] w1).set (.inl (by simp)) _).set (.inl (by simp)) _).set (.inl (by simp)) _).set (.inl (by simp)) _).set (.inl (by simp)) _).set (.inl (by simp)) _).set (.inl (by simp)) _).set (.inl (by simp)) _)


set_option maxRecDepth 20000 in
set_option maxHeartbeats 2000000 in
theorem gact_put (x : Nat) (P : Asn) (hP : Framed P) (f : List Nat) (b c : Int) (s : ByteArray) (w : World) (hwi : ∀ y ∈ f, y < w.heap.size) (r : Int)
    (hC : ∀ W, Fr [] w W → Calls Try.prog 34 #[.pointer (some ⟨x, 0, none⟩), .int .i64 b, .string s] W fun e w' => e = .returned (.int .i64 r) ∧ ATo P f W w') :
    Calls Try.prog 16 #[.pointer (some ⟨x, 0, none⟩), actV 2 b c s] w fun e w' => e = .returned (ansV ByteArray.empty 0 0 r) ∧ ATo P f w w' := by
  have HC := hid hC
  have HFIN : Hid (∀ W w1 w2 S, ATo P f W w1 → Fr [] w W → Fr S w1 w2 → (∀ y ∈ S, w.heap.size ≤ y ∧ y < W.heap.size) → ATo P f w w2) := hid (fun W w1 w2 S h1 h0 k hS => h1.scratch hP h0 hwi k hS)
  have hnf1 : w.heap.size + 1 ∉ f := fun e => by have := hwi _ e; omega
  have hnf2 : w.heap.size + 1 + 1 ∉ f := fun e => by have := hwi _ e; omega
  clear hC hwi
  go_enter Try.func16, Try.ntmps16
  go_wp2_with fail
  go_at_call 34
  refine (HC.out _ (((Fr.refl [] w).alloc _).alloc _ |>.alloc _)).mono ?_
  rintro e w1 ⟨rfl, ht⟩
  have HT := hid ht
  obtain ⟨_, _, _, _, hfr⟩ := ht
  have b1 : w1.heap[w.heap.size + 1]? = some (.cells #[.string ByteArray.empty, .int .i64 0, .int .i64 0, .int .i64 0] 44 (0, 0)) := (hfr.block _ (by simp) hnf1).trans ((Below.heap_alloc _ _ _ (by simp)).trans (heap_alloc_at (by simp)))
  have b2 : w1.heap[w.heap.size + 1 + 1]? = some (.cells #[.string ByteArray.empty, .int .i64 0, .int .i64 0, .int .i64 0] 44 (0, 0)) := (hfr.block _ (by simp) hnf2).trans (heap_alloc_at (by simp))
  have p0 : w1.cell? ⟨w.heap.size + 1, 0, none⟩ = some (.string ByteArray.empty) := by rw [cell_of_row _ _ _ _ _ _ b1]; rfl
  have p1 : w1.cell? ⟨w.heap.size + 1, 1, none⟩ = some (.int .i64 0) := by rw [cell_of_row _ _ _ _ _ _ b1]; rfl
  have p2 : w1.cell? ⟨w.heap.size + 1, 2, none⟩ = some (.int .i64 0) := by rw [cell_of_row _ _ _ _ _ _ b1]; rfl
  have p3 : w1.cell? ⟨w.heap.size + 1, 3, none⟩ = some (.int .i64 0) := by rw [cell_of_row _ _ _ _ _ _ b1]; rfl
  have q0 : w1.cell? ⟨w.heap.size + 1 + 1, 0, none⟩ = some (.string ByteArray.empty) := by rw [cell_of_row _ _ _ _ _ _ b2]; rfl
  have q1 : w1.cell? ⟨w.heap.size + 1 + 1, 1, none⟩ = some (.int .i64 0) := by rw [cell_of_row _ _ _ _ _ _ b2]; rfl
  have q2 : w1.cell? ⟨w.heap.size + 1 + 1, 2, none⟩ = some (.int .i64 0) := by rw [cell_of_row _ _ _ _ _ _ b2]; rfl
  have q3 : w1.cell? ⟨w.heap.size + 1 + 1, 3, none⟩ = some (.int .i64 0) := by rw [cell_of_row _ _ _ _ _ _ b2]; rfl
  have zp := frozen_blk b1
  have zq := frozen_blk b2
  have HB1 := hid b1
  clear hfr b1 b2 hnf1 hnf2
  go_wp2_with fail
  refine bodyPost_ret (v := ansV ByteArray.empty 0 0 r) (results_cell_row Try.results16 _ _ _ _ _ _ _ rfl (Go.heap_setCell_same _ _ 3 _ _ _ (Go.heap_setCell_same _ _ 2 _ _ _ (Go.heap_setCell_same _ _ 1 _ _ _ (Go.heap_setCell_same _ _ 0 _ _ _ ((Below.heap_setCell _ _ _ _ (by simp)).trans (HB1.out)))))) Try.underlying44 rfl (by kernel_rfl)) rfl ⟨rfl, HFIN.out _ _ _ [w.heap.size + 1, w.heap.size + 1 + 1] HT.out (((Fr.refl [] w).alloc _).alloc _ |>.alloc _) ?_ (by simp; omega)⟩
  exact ((((((Fr.refl [w.heap.size + 1, w.heap.size + 1 + 1] w1).set (.inl (by simp)) _).set (.inl (by simp)) _).set (.inl (by simp)) _).set (.inl (by simp)) _).set (.inl (by simp)) _)


set_option maxRecDepth 20000 in
set_option maxHeartbeats 2000000 in
theorem gact_clear (x : Nat) (P : Asn) (hP : Framed P) (f : List Nat) (b c : Int) (s : ByteArray) (w : World) (hwi : ∀ y ∈ f, y < w.heap.size) (r : Int)
    (hC : ∀ W, Fr [] w W → Calls Try.prog 35 #[.pointer (some ⟨x, 0, none⟩), .int .i64 b, .string s] W fun e w' => e = .returned (.int .i64 r) ∧ ATo P f W w') :
    Calls Try.prog 16 #[.pointer (some ⟨x, 0, none⟩), actV 3 b c s] w fun e w' => e = .returned (ansV ByteArray.empty 0 0 r) ∧ ATo P f w w' := by
  have HC := hid hC
  have HFIN : Hid (∀ W w1 w2 S, ATo P f W w1 → Fr [] w W → Fr S w1 w2 → (∀ y ∈ S, w.heap.size ≤ y ∧ y < W.heap.size) → ATo P f w w2) := hid (fun W w1 w2 S h1 h0 k hS => h1.scratch hP h0 hwi k hS)
  have hnf1 : w.heap.size + 1 ∉ f := fun e => by have := hwi _ e; omega
  have hnf2 : w.heap.size + 1 + 1 ∉ f := fun e => by have := hwi _ e; omega
  clear hC hwi
  go_enter Try.func16, Try.ntmps16
  go_wp2_with fail
  go_at_call 35
  refine (HC.out _ (((Fr.refl [] w).alloc _).alloc _ |>.alloc _)).mono ?_
  rintro e w1 ⟨rfl, ht⟩
  have HT := hid ht
  obtain ⟨_, _, _, _, hfr⟩ := ht
  have b1 : w1.heap[w.heap.size + 1]? = some (.cells #[.string ByteArray.empty, .int .i64 0, .int .i64 0, .int .i64 0] 44 (0, 0)) := (hfr.block _ (by simp) hnf1).trans ((Below.heap_alloc _ _ _ (by simp)).trans (heap_alloc_at (by simp)))
  have b2 : w1.heap[w.heap.size + 1 + 1]? = some (.cells #[.string ByteArray.empty, .int .i64 0, .int .i64 0, .int .i64 0] 44 (0, 0)) := (hfr.block _ (by simp) hnf2).trans (heap_alloc_at (by simp))
  have p0 : w1.cell? ⟨w.heap.size + 1, 0, none⟩ = some (.string ByteArray.empty) := by rw [cell_of_row _ _ _ _ _ _ b1]; rfl
  have p1 : w1.cell? ⟨w.heap.size + 1, 1, none⟩ = some (.int .i64 0) := by rw [cell_of_row _ _ _ _ _ _ b1]; rfl
  have p2 : w1.cell? ⟨w.heap.size + 1, 2, none⟩ = some (.int .i64 0) := by rw [cell_of_row _ _ _ _ _ _ b1]; rfl
  have p3 : w1.cell? ⟨w.heap.size + 1, 3, none⟩ = some (.int .i64 0) := by rw [cell_of_row _ _ _ _ _ _ b1]; rfl
  have q0 : w1.cell? ⟨w.heap.size + 1 + 1, 0, none⟩ = some (.string ByteArray.empty) := by rw [cell_of_row _ _ _ _ _ _ b2]; rfl
  have q1 : w1.cell? ⟨w.heap.size + 1 + 1, 1, none⟩ = some (.int .i64 0) := by rw [cell_of_row _ _ _ _ _ _ b2]; rfl
  have q2 : w1.cell? ⟨w.heap.size + 1 + 1, 2, none⟩ = some (.int .i64 0) := by rw [cell_of_row _ _ _ _ _ _ b2]; rfl
  have q3 : w1.cell? ⟨w.heap.size + 1 + 1, 3, none⟩ = some (.int .i64 0) := by rw [cell_of_row _ _ _ _ _ _ b2]; rfl
  have zp := frozen_blk b1
  have zq := frozen_blk b2
  have HB1 := hid b1
  clear hfr b1 b2 hnf1 hnf2
  go_wp2_with fail
  refine bodyPost_ret (v := ansV ByteArray.empty 0 0 r) (results_cell_row Try.results16 _ _ _ _ _ _ _ rfl (Go.heap_setCell_same _ _ 3 _ _ _ (Go.heap_setCell_same _ _ 2 _ _ _ (Go.heap_setCell_same _ _ 1 _ _ _ (Go.heap_setCell_same _ _ 0 _ _ _ ((Below.heap_setCell _ _ _ _ (by simp)).trans (HB1.out)))))) Try.underlying44 rfl (by kernel_rfl)) rfl ⟨rfl, HFIN.out _ _ _ [w.heap.size + 1, w.heap.size + 1 + 1] HT.out (((Fr.refl [] w).alloc _).alloc _ |>.alloc _) ?_ (by simp; omega)⟩
  exact ((((((Fr.refl [w.heap.size + 1, w.heap.size + 1 + 1] w1).set (.inl (by simp)) _).set (.inl (by simp)) _).set (.inl (by simp)) _).set (.inl (by simp)) _).set (.inl (by simp)) _)


set_option maxRecDepth 20000 in
set_option maxHeartbeats 2000000 in
theorem gact_view (x : Nat) (P : Asn) (hP : Framed P) (f : List Nat) (b c : Int) (s : ByteArray) (w : World) (hwi : ∀ y ∈ f, y < w.heap.size) (r1 : ByteArray) (r2 : Int)
    (hC : ∀ W, Fr [] w W → Calls Try.prog 14 #[.pointer (some ⟨x, 0, none⟩), .int .i64 b] W fun e w' => e = .returned (.tuple #[.string r1, .int .i64 r2]) ∧ ATo P f W w') :
    Calls Try.prog 16 #[.pointer (some ⟨x, 0, none⟩), actV 4 b c s] w fun e w' => e = .returned (ansV r1 0 0 r2) ∧ ATo P f w w' := by
  have HC := hid hC
  have HFIN : Hid (∀ W w1 w2 S, ATo P f W w1 → Fr [] w W → Fr S w1 w2 → (∀ y ∈ S, w.heap.size ≤ y ∧ y < W.heap.size) → ATo P f w w2) := hid (fun W w1 w2 S h1 h0 k hS => h1.scratch hP h0 hwi k hS)
  have hnf1 : w.heap.size + 1 ∉ f := fun e => by have := hwi _ e; omega
  have hnf2 : w.heap.size + 1 + 1 ∉ f := fun e => by have := hwi _ e; omega
  clear hC hwi
  go_enter Try.func16, Try.ntmps16
  go_wp2_with fail
  go_at_call 14
  refine (HC.out _ (((Fr.refl [] w).alloc _).alloc _ |>.alloc _)).mono ?_
  rintro e w1 ⟨rfl, ht⟩
  have HT := hid ht
  obtain ⟨_, _, _, _, hfr⟩ := ht
  have b1 : w1.heap[w.heap.size + 1]? = some (.cells #[.string ByteArray.empty, .int .i64 0, .int .i64 0, .int .i64 0] 44 (0, 0)) := (hfr.block _ (by simp) hnf1).trans ((Below.heap_alloc _ _ _ (by simp)).trans (heap_alloc_at (by simp)))
  have b2 : w1.heap[w.heap.size + 1 + 1]? = some (.cells #[.string ByteArray.empty, .int .i64 0, .int .i64 0, .int .i64 0] 44 (0, 0)) := (hfr.block _ (by simp) hnf2).trans (heap_alloc_at (by simp))
  have p0 : w1.cell? ⟨w.heap.size + 1, 0, none⟩ = some (.string ByteArray.empty) := by rw [cell_of_row _ _ _ _ _ _ b1]; rfl
  have p1 : w1.cell? ⟨w.heap.size + 1, 1, none⟩ = some (.int .i64 0) := by rw [cell_of_row _ _ _ _ _ _ b1]; rfl
  have p2 : w1.cell? ⟨w.heap.size + 1, 2, none⟩ = some (.int .i64 0) := by rw [cell_of_row _ _ _ _ _ _ b1]; rfl
  have p3 : w1.cell? ⟨w.heap.size + 1, 3, none⟩ = some (.int .i64 0) := by rw [cell_of_row _ _ _ _ _ _ b1]; rfl
  have q0 : w1.cell? ⟨w.heap.size + 1 + 1, 0, none⟩ = some (.string ByteArray.empty) := by rw [cell_of_row _ _ _ _ _ _ b2]; rfl
  have q1 : w1.cell? ⟨w.heap.size + 1 + 1, 1, none⟩ = some (.int .i64 0) := by rw [cell_of_row _ _ _ _ _ _ b2]; rfl
  have q2 : w1.cell? ⟨w.heap.size + 1 + 1, 2, none⟩ = some (.int .i64 0) := by rw [cell_of_row _ _ _ _ _ _ b2]; rfl
  have q3 : w1.cell? ⟨w.heap.size + 1 + 1, 3, none⟩ = some (.int .i64 0) := by rw [cell_of_row _ _ _ _ _ _ b2]; rfl
  have zp := frozen_blk b1
  have zq := frozen_blk b2
  have HB1 := hid b1
  clear hfr b1 b2 hnf1 hnf2
  go_wp2_with fail
  refine bodyPost_ret (v := ansV r1 0 0 r2) (results_cell_row Try.results16 _ _ _ _ _ _ _ rfl (Go.heap_setCell_same _ _ 3 _ _ _ (Go.heap_setCell_same _ _ 2 _ _ _ (Go.heap_setCell_same _ _ 1 _ _ _ (Go.heap_setCell_same _ _ 0 _ _ _ ((Below.heap_setCell _ _ _ _ (by simp)).trans ((Below.heap_setCell _ _ _ _ (by simp)).trans ((Below.heap_setCell _ _ _ _ (by simp)).trans ((Below.heap_setCell _ _ _ _ (by simp)).trans (HB1.out))))))))) Try.underlying44 rfl (by kernel_rfl)) rfl ⟨rfl, HFIN.out _ _ _ [w.heap.size + 1, w.heap.size + 1 + 1] HT.out (((Fr.refl [] w).alloc _).alloc _ |>.alloc _) ?_ (by simp; omega)⟩
  exact (((((((((Fr.refl [w.heap.size + 1, w.heap.size + 1 + 1] w1).set (.inl (by simp)) _).set (.inl (by simp)) _).set (.inl (by simp)) _).set (.inl (by simp)) _).set (.inl (by simp)) _).set (.inl (by simp)) _).set (.inl (by simp)) _).set (.inl (by simp)) _)


set_option maxRecDepth 20000 in
set_option maxHeartbeats 2000000 in
theorem gact_abort (x : Nat) (P : Asn) (hP : Framed P) (f : List Nat) (b c : Int) (s : ByteArray) (w : World) (hwi : ∀ y ∈ f, y < w.heap.size) (r : Int)
    (hC : ∀ W, Fr [] w W → Calls Try.prog 23 #[.pointer (some ⟨x, 0, none⟩), .int .i64 b] W fun e w' => e = .returned (.int .i64 r) ∧ ATo P f W w') :
    Calls Try.prog 16 #[.pointer (some ⟨x, 0, none⟩), actV 5 b c s] w fun e w' => e = .returned (ansV ByteArray.empty 0 0 r) ∧ ATo P f w w' := by
  have HC := hid hC
  have HFIN : Hid (∀ W w1 w2 S, ATo P f W w1 → Fr [] w W → Fr S w1 w2 → (∀ y ∈ S, w.heap.size ≤ y ∧ y < W.heap.size) → ATo P f w w2) := hid (fun W w1 w2 S h1 h0 k hS => h1.scratch hP h0 hwi k hS)
  have hnf1 : w.heap.size + 1 ∉ f := fun e => by have := hwi _ e; omega
  have hnf2 : w.heap.size + 1 + 1 ∉ f := fun e => by have := hwi _ e; omega
  clear hC hwi
  go_enter Try.func16, Try.ntmps16
  go_wp2_with fail
  go_at_call 23
  refine (HC.out _ (((Fr.refl [] w).alloc _).alloc _ |>.alloc _)).mono ?_
  rintro e w1 ⟨rfl, ht⟩
  have HT := hid ht
  obtain ⟨_, _, _, _, hfr⟩ := ht
  have b1 : w1.heap[w.heap.size + 1]? = some (.cells #[.string ByteArray.empty, .int .i64 0, .int .i64 0, .int .i64 0] 44 (0, 0)) := (hfr.block _ (by simp) hnf1).trans ((Below.heap_alloc _ _ _ (by simp)).trans (heap_alloc_at (by simp)))
  have b2 : w1.heap[w.heap.size + 1 + 1]? = some (.cells #[.string ByteArray.empty, .int .i64 0, .int .i64 0, .int .i64 0] 44 (0, 0)) := (hfr.block _ (by simp) hnf2).trans (heap_alloc_at (by simp))
  have p0 : w1.cell? ⟨w.heap.size + 1, 0, none⟩ = some (.string ByteArray.empty) := by rw [cell_of_row _ _ _ _ _ _ b1]; rfl
  have p1 : w1.cell? ⟨w.heap.size + 1, 1, none⟩ = some (.int .i64 0) := by rw [cell_of_row _ _ _ _ _ _ b1]; rfl
  have p2 : w1.cell? ⟨w.heap.size + 1, 2, none⟩ = some (.int .i64 0) := by rw [cell_of_row _ _ _ _ _ _ b1]; rfl
  have p3 : w1.cell? ⟨w.heap.size + 1, 3, none⟩ = some (.int .i64 0) := by rw [cell_of_row _ _ _ _ _ _ b1]; rfl
  have q0 : w1.cell? ⟨w.heap.size + 1 + 1, 0, none⟩ = some (.string ByteArray.empty) := by rw [cell_of_row _ _ _ _ _ _ b2]; rfl
  have q1 : w1.cell? ⟨w.heap.size + 1 + 1, 1, none⟩ = some (.int .i64 0) := by rw [cell_of_row _ _ _ _ _ _ b2]; rfl
  have q2 : w1.cell? ⟨w.heap.size + 1 + 1, 2, none⟩ = some (.int .i64 0) := by rw [cell_of_row _ _ _ _ _ _ b2]; rfl
  have q3 : w1.cell? ⟨w.heap.size + 1 + 1, 3, none⟩ = some (.int .i64 0) := by rw [cell_of_row _ _ _ _ _ _ b2]; rfl
  have zp := frozen_blk b1
  have zq := frozen_blk b2
  have HB1 := hid b1
  clear hfr b1 b2 hnf1 hnf2
  go_wp2_with fail
  refine bodyPost_ret (v := ansV ByteArray.empty 0 0 r) (results_cell_row Try.results16 _ _ _ _ _ _ _ rfl (Go.heap_setCell_same _ _ 3 _ _ _ (Go.heap_setCell_same _ _ 2 _ _ _ (Go.heap_setCell_same _ _ 1 _ _ _ (Go.heap_setCell_same _ _ 0 _ _ _ ((Below.heap_setCell _ _ _ _ (by simp)).trans (HB1.out)))))) Try.underlying44 rfl (by kernel_rfl)) rfl ⟨rfl, HFIN.out _ _ _ [w.heap.size + 1, w.heap.size + 1 + 1] HT.out (((Fr.refl [] w).alloc _).alloc _ |>.alloc _) ?_ (by simp; omega)⟩
  exact ((((((Fr.refl [w.heap.size + 1, w.heap.size + 1 + 1] w1).set (.inl (by simp)) _).set (.inl (by simp)) _).set (.inl (by simp)) _).set (.inl (by simp)) _).set (.inl (by simp)) _)


set_option maxRecDepth 20000 in
set_option maxHeartbeats 2000000 in
theorem gact_commit (x : Nat) (P : Asn) (hP : Framed P) (f : List Nat) (b c : Int) (s : ByteArray) (w : World) (hwi : ∀ y ∈ f, y < w.heap.size) (r1 : Int) (r2 : Int)
    (hC : ∀ W, Fr [] w W → Calls Try.prog 36 #[.pointer (some ⟨x, 0, none⟩), .int .i64 b] W fun e w' => e = .returned (.tuple #[.int .i64 r1, .int .i64 r2]) ∧ ATo P f W w') :
    Calls Try.prog 16 #[.pointer (some ⟨x, 0, none⟩), actV 6 b c s] w fun e w' => e = .returned (ansV ByteArray.empty r1 0 r2) ∧ ATo P f w w' := by
  have HC := hid hC
  have HFIN : Hid (∀ W w1 w2 S, ATo P f W w1 → Fr [] w W → Fr S w1 w2 → (∀ y ∈ S, w.heap.size ≤ y ∧ y < W.heap.size) → ATo P f w w2) := hid (fun W w1 w2 S h1 h0 k hS => h1.scratch hP h0 hwi k hS)
  have hnf1 : w.heap.size + 1 ∉ f := fun e => by have := hwi _ e; omega
  have hnf2 : w.heap.size + 1 + 1 ∉ f := fun e => by have := hwi _ e; omega
  clear hC hwi
  go_enter Try.func16, Try.ntmps16
  go_wp2_with fail
  go_at_call 36
  refine (HC.out _ (((Fr.refl [] w).alloc _).alloc _ |>.alloc _)).mono ?_
  rintro e w1 ⟨rfl, ht⟩
  have HT := hid ht
  obtain ⟨_, _, _, _, hfr⟩ := ht
  have b1 : w1.heap[w.heap.size + 1]? = some (.cells #[.string ByteArray.empty, .int .i64 0, .int .i64 0, .int .i64 0] 44 (0, 0)) := (hfr.block _ (by simp) hnf1).trans ((Below.heap_alloc _ _ _ (by simp)).trans (heap_alloc_at (by simp)))
  have b2 : w1.heap[w.heap.size + 1 + 1]? = some (.cells #[.string ByteArray.empty, .int .i64 0, .int .i64 0, .int .i64 0] 44 (0, 0)) := (hfr.block _ (by simp) hnf2).trans (heap_alloc_at (by simp))
  have p0 : w1.cell? ⟨w.heap.size + 1, 0, none⟩ = some (.string ByteArray.empty) := by rw [cell_of_row _ _ _ _ _ _ b1]; rfl
  have p1 : w1.cell? ⟨w.heap.size + 1, 1, none⟩ = some (.int .i64 0) := by rw [cell_of_row _ _ _ _ _ _ b1]; rfl
  have p2 : w1.cell? ⟨w.heap.size + 1, 2, none⟩ = some (.int .i64 0) := by rw [cell_of_row _ _ _ _ _ _ b1]; rfl
  have p3 : w1.cell? ⟨w.heap.size + 1, 3, none⟩ = some (.int .i64 0) := by rw [cell_of_row _ _ _ _ _ _ b1]; rfl
  have q0 : w1.cell? ⟨w.heap.size + 1 + 1, 0, none⟩ = some (.string ByteArray.empty) := by rw [cell_of_row _ _ _ _ _ _ b2]; rfl
  have q1 : w1.cell? ⟨w.heap.size + 1 + 1, 1, none⟩ = some (.int .i64 0) := by rw [cell_of_row _ _ _ _ _ _ b2]; rfl
  have q2 : w1.cell? ⟨w.heap.size + 1 + 1, 2, none⟩ = some (.int .i64 0) := by rw [cell_of_row _ _ _ _ _ _ b2]; rfl
  have q3 : w1.cell? ⟨w.heap.size + 1 + 1, 3, none⟩ = some (.int .i64 0) := by rw [cell_of_row _ _ _ _ _ _ b2]; rfl
  have zp := frozen_blk b1
  have zq := frozen_blk b2
  have HB1 := hid b1
  clear hfr b1 b2 hnf1 hnf2
  go_wp2_with fail
  refine bodyPost_ret (v := ansV ByteArray.empty r1 0 r2) (results_cell_row Try.results16 _ _ _ _ _ _ _ rfl (Go.heap_setCell_same _ _ 3 _ _ _ (Go.heap_setCell_same _ _ 2 _ _ _ (Go.heap_setCell_same _ _ 1 _ _ _ (Go.heap_setCell_same _ _ 0 _ _ _ ((Below.heap_setCell _ _ _ _ (by simp)).trans ((Below.heap_setCell _ _ _ _ (by simp)).trans ((Below.heap_setCell _ _ _ _ (by simp)).trans ((Below.heap_setCell _ _ _ _ (by simp)).trans (HB1.out))))))))) Try.underlying44 rfl (by kernel_rfl)) rfl ⟨rfl, HFIN.out _ _ _ [w.heap.size + 1, w.heap.size + 1 + 1] HT.out (((Fr.refl [] w).alloc _).alloc _ |>.alloc _) ?_ (by simp; omega)⟩
  exact (((((((((Fr.refl [w.heap.size + 1, w.heap.size + 1 + 1] w1).set (.inl (by simp)) _).set (.inl (by simp)) _).set (.inl (by simp)) _).set (.inl (by simp)) _).set (.inl (by simp)) _).set (.inl (by simp)) _).set (.inl (by simp)) _).set (.inl (by simp)) _)


set_option maxRecDepth 20000 in
set_option maxHeartbeats 2000000 in
theorem gact_matches (x : Nat) (P : Asn) (hP : Framed P) (f : List Nat) (b c : Int) (s : ByteArray) (w : World) (hwi : ∀ y ∈ f, y < w.heap.size) (r1 : ByteArray) (r2 : Int)
    (hC : ∀ W, Fr [] w W → Calls Try.prog 17 #[.pointer (some ⟨x, 0, none⟩), .int .i64 b] W fun e w' => e = .returned (.tuple #[.string r1, .int .i64 r2]) ∧ ATo P f W w') :
    Calls Try.prog 16 #[.pointer (some ⟨x, 0, none⟩), actV 7 b c s] w fun e w' => e = .returned (ansV r1 0 0 r2) ∧ ATo P f w w' := by
  have HC := hid hC
  have HFIN : Hid (∀ W w1 w2 S, ATo P f W w1 → Fr [] w W → Fr S w1 w2 → (∀ y ∈ S, w.heap.size ≤ y ∧ y < W.heap.size) → ATo P f w w2) := hid (fun W w1 w2 S h1 h0 k hS => h1.scratch hP h0 hwi k hS)
  have hnf1 : w.heap.size + 1 ∉ f := fun e => by have := hwi _ e; omega
  have hnf2 : w.heap.size + 1 + 1 ∉ f := fun e => by have := hwi _ e; omega
  clear hC hwi
  go_enter Try.func16, Try.ntmps16
  go_wp2_with fail
  go_at_call 17
  refine (HC.out _ (((Fr.refl [] w).alloc _).alloc _ |>.alloc _)).mono ?_
  rintro e w1 ⟨rfl, ht⟩
  have HT := hid ht
  obtain ⟨_, _, _, _, hfr⟩ := ht
  have b1 : w1.heap[w.heap.size + 1]? = some (.cells #[.string ByteArray.empty, .int .i64 0, .int .i64 0, .int .i64 0] 44 (0, 0)) := (hfr.block _ (by simp) hnf1).trans ((Below.heap_alloc _ _ _ (by simp)).trans (heap_alloc_at (by simp)))
  have b2 : w1.heap[w.heap.size + 1 + 1]? = some (.cells #[.string ByteArray.empty, .int .i64 0, .int .i64 0, .int .i64 0] 44 (0, 0)) := (hfr.block _ (by simp) hnf2).trans (heap_alloc_at (by simp))
  have p0 : w1.cell? ⟨w.heap.size + 1, 0, none⟩ = some (.string ByteArray.empty) := by rw [cell_of_row _ _ _ _ _ _ b1]; rfl
  have p1 : w1.cell? ⟨w.heap.size + 1, 1, none⟩ = some (.int .i64 0) := by rw [cell_of_row _ _ _ _ _ _ b1]; rfl
  have p2 : w1.cell? ⟨w.heap.size + 1, 2, none⟩ = some (.int .i64 0) := by rw [cell_of_row _ _ _ _ _ _ b1]; rfl
  have p3 : w1.cell? ⟨w.heap.size + 1, 3, none⟩ = some (.int .i64 0) := by rw [cell_of_row _ _ _ _ _ _ b1]; rfl
  have q0 : w1.cell? ⟨w.heap.size + 1 + 1, 0, none⟩ = some (.string ByteArray.empty) := by rw [cell_of_row _ _ _ _ _ _ b2]; rfl
  have q1 : w1.cell? ⟨w.heap.size + 1 + 1, 1, none⟩ = some (.int .i64 0) := by rw [cell_of_row _ _ _ _ _ _ b2]; rfl
  have q2 : w1.cell? ⟨w.heap.size + 1 + 1, 2, none⟩ = some (.int .i64 0) := by rw [cell_of_row _ _ _ _ _ _ b2]; rfl
  have q3 : w1.cell? ⟨w.heap.size + 1 + 1, 3, none⟩ = some (.int .i64 0) := by rw [cell_of_row _ _ _ _ _ _ b2]; rfl
  have zp := frozen_blk b1
  have zq := frozen_blk b2
  have HB1 := hid b1
  clear hfr b1 b2 hnf1 hnf2
  go_wp2_with fail
  refine bodyPost_ret (v := ansV r1 0 0 r2) (results_cell_row Try.results16 _ _ _ _ _ _ _ rfl (Go.heap_setCell_same _ _ 3 _ _ _ (Go.heap_setCell_same _ _ 2 _ _ _ (Go.heap_setCell_same _ _ 1 _ _ _ (Go.heap_setCell_same _ _ 0 _ _ _ ((Below.heap_setCell _ _ _ _ (by simp)).trans ((Below.heap_setCell _ _ _ _ (by simp)).trans ((Below.heap_setCell _ _ _ _ (by simp)).trans ((Below.heap_setCell _ _ _ _ (by simp)).trans (HB1.out))))))))) Try.underlying44 rfl (by kernel_rfl)) rfl ⟨rfl, HFIN.out _ _ _ [w.heap.size + 1, w.heap.size + 1 + 1] HT.out (((Fr.refl [] w).alloc _).alloc _ |>.alloc _) ?_ (by simp; omega)⟩
  exact (((((((((Fr.refl [w.heap.size + 1, w.heap.size + 1 + 1] w1).set (.inl (by simp)) _).set (.inl (by simp)) _).set (.inl (by simp)) _).set (.inl (by simp)) _).set (.inl (by simp)) _).set (.inl (by simp)) _).set (.inl (by simp)) _).set (.inl (by simp)) _)


set_option maxRecDepth 20000 in
set_option maxHeartbeats 2000000 in
theorem gact_run (x : Nat) (P : Asn) (hP : Framed P) (f : List Nat) (b c : Int) (s : ByteArray) (w : World) (hwi : ∀ y ∈ f, y < w.heap.size) (r1 : Int) (r2 : Int) (r3 : Int)
    (hC : ∀ W, Fr [] w W → Calls Try.prog 19 #[.pointer (some ⟨x, 0, none⟩), .int .i64 b, .int .i64 c] W fun e w' => e = .returned (.tuple #[.int .i64 r1, .int .i64 r2, .int .i64 r3]) ∧ ATo P f W w') :
    Calls Try.prog 16 #[.pointer (some ⟨x, 0, none⟩), actV 8 b c s] w fun e w' => e = .returned (ansV ByteArray.empty r1 r2 r3) ∧ ATo P f w w' := by
  have HC := hid hC
  have HFIN : Hid (∀ W w1 w2 S, ATo P f W w1 → Fr [] w W → Fr S w1 w2 → (∀ y ∈ S, w.heap.size ≤ y ∧ y < W.heap.size) → ATo P f w w2) := hid (fun W w1 w2 S h1 h0 k hS => h1.scratch hP h0 hwi k hS)
  have hnf1 : w.heap.size + 1 ∉ f := fun e => by have := hwi _ e; omega
  have hnf2 : w.heap.size + 1 + 1 ∉ f := fun e => by have := hwi _ e; omega
  clear hC hwi
  go_enter Try.func16, Try.ntmps16
  go_wp2_with fail
  go_at_call 19
  refine (HC.out _ (((Fr.refl [] w).alloc _).alloc _ |>.alloc _)).mono ?_
  rintro e w1 ⟨rfl, ht⟩
  have HT := hid ht
  obtain ⟨_, _, _, _, hfr⟩ := ht
  have b1 : w1.heap[w.heap.size + 1]? = some (.cells #[.string ByteArray.empty, .int .i64 0, .int .i64 0, .int .i64 0] 44 (0, 0)) := (hfr.block _ (by simp) hnf1).trans ((Below.heap_alloc _ _ _ (by simp)).trans (heap_alloc_at (by simp)))
  have b2 : w1.heap[w.heap.size + 1 + 1]? = some (.cells #[.string ByteArray.empty, .int .i64 0, .int .i64 0, .int .i64 0] 44 (0, 0)) := (hfr.block _ (by simp) hnf2).trans (heap_alloc_at (by simp))
  have p0 : w1.cell? ⟨w.heap.size + 1, 0, none⟩ = some (.string ByteArray.empty) := by rw [cell_of_row _ _ _ _ _ _ b1]; rfl
  have p1 : w1.cell? ⟨w.heap.size + 1, 1, none⟩ = some (.int .i64 0) := by rw [cell_of_row _ _ _ _ _ _ b1]; rfl
  have p2 : w1.cell? ⟨w.heap.size + 1, 2, none⟩ = some (.int .i64 0) := by rw [cell_of_row _ _ _ _ _ _ b1]; rfl
  have p3 : w1.cell? ⟨w.heap.size + 1, 3, none⟩ = some (.int .i64 0) := by rw [cell_of_row _ _ _ _ _ _ b1]; rfl
  have q0 : w1.cell? ⟨w.heap.size + 1 + 1, 0, none⟩ = some (.string ByteArray.empty) := by rw [cell_of_row _ _ _ _ _ _ b2]; rfl
  have q1 : w1.cell? ⟨w.heap.size + 1 + 1, 1, none⟩ = some (.int .i64 0) := by rw [cell_of_row _ _ _ _ _ _ b2]; rfl
  have q2 : w1.cell? ⟨w.heap.size + 1 + 1, 2, none⟩ = some (.int .i64 0) := by rw [cell_of_row _ _ _ _ _ _ b2]; rfl
  have q3 : w1.cell? ⟨w.heap.size + 1 + 1, 3, none⟩ = some (.int .i64 0) := by rw [cell_of_row _ _ _ _ _ _ b2]; rfl
  have zp := frozen_blk b1
  have zq := frozen_blk b2
  have HB1 := hid b1
  clear hfr b1 b2 hnf1 hnf2
  go_wp2_with fail
  refine bodyPost_ret (v := ansV ByteArray.empty r1 r2 r3) (results_cell_row Try.results16 _ _ _ _ _ _ _ rfl (Go.heap_setCell_same _ _ 3 _ _ _ (Go.heap_setCell_same _ _ 2 _ _ _ (Go.heap_setCell_same _ _ 1 _ _ _ (Go.heap_setCell_same _ _ 0 _ _ _ ((Below.heap_setCell _ _ _ _ (by simp)).trans ((Below.heap_setCell _ _ _ _ (by simp)).trans ((Below.heap_setCell _ _ _ _ (by simp)).trans ((Below.heap_setCell _ _ _ _ (by simp)).trans (HB1.out))))))))) Try.underlying44 rfl (by kernel_rfl)) rfl ⟨rfl, HFIN.out _ _ _ [w.heap.size + 1, w.heap.size + 1 + 1] HT.out (((Fr.refl [] w).alloc _).alloc _ |>.alloc _) ?_ (by simp; omega)⟩
  exact (((((((((Fr.refl [w.heap.size + 1, w.heap.size + 1 + 1] w1).set (.inl (by simp)) _).set (.inl (by simp)) _).set (.inl (by simp)) _).set (.inl (by simp)) _).set (.inl (by simp)) _).set (.inl (by simp)) _).set (.inl (by simp)) _).set (.inl (by simp)) _)


set_option maxRecDepth 20000 in
set_option maxHeartbeats 2000000 in
theorem gact_kept (x : Nat) (P : Asn) (hP : Framed P) (f : List Nat) (b c : Int) (s : ByteArray) (w : World) (hwi : ∀ y ∈ f, y < w.heap.size) (r : Int)
    (hC : ∀ W, Fr [] w W → Calls Try.prog 25 #[.pointer (some ⟨x, 0, none⟩)] W fun e w' => e = .returned (.int .i64 r) ∧ ATo P f W w') :
    Calls Try.prog 16 #[.pointer (some ⟨x, 0, none⟩), actV 9 b c s] w fun e w' => e = .returned (ansV ByteArray.empty r 0 0) ∧ ATo P f w w' := by
  have HC := hid hC
  have HFIN : Hid (∀ W w1 w2 S, ATo P f W w1 → Fr [] w W → Fr S w1 w2 → (∀ y ∈ S, w.heap.size ≤ y ∧ y < W.heap.size) → ATo P f w w2) := hid (fun W w1 w2 S h1 h0 k hS => h1.scratch hP h0 hwi k hS)
  have hnf1 : w.heap.size + 1 ∉ f := fun e => by have := hwi _ e; omega
  have hnf2 : w.heap.size + 1 + 1 ∉ f := fun e => by have := hwi _ e; omega
  clear hC hwi
  go_enter Try.func16, Try.ntmps16
  go_wp2_with fail
  go_at_call 25
  refine (HC.out _ (((Fr.refl [] w).alloc _).alloc _ |>.alloc _)).mono ?_
  rintro e w1 ⟨rfl, ht⟩
  have HT := hid ht
  obtain ⟨_, _, _, _, hfr⟩ := ht
  have b1 : w1.heap[w.heap.size + 1]? = some (.cells #[.string ByteArray.empty, .int .i64 0, .int .i64 0, .int .i64 0] 44 (0, 0)) := (hfr.block _ (by simp) hnf1).trans ((Below.heap_alloc _ _ _ (by simp)).trans (heap_alloc_at (by simp)))
  have b2 : w1.heap[w.heap.size + 1 + 1]? = some (.cells #[.string ByteArray.empty, .int .i64 0, .int .i64 0, .int .i64 0] 44 (0, 0)) := (hfr.block _ (by simp) hnf2).trans (heap_alloc_at (by simp))
  have p0 : w1.cell? ⟨w.heap.size + 1, 0, none⟩ = some (.string ByteArray.empty) := by rw [cell_of_row _ _ _ _ _ _ b1]; rfl
  have p1 : w1.cell? ⟨w.heap.size + 1, 1, none⟩ = some (.int .i64 0) := by rw [cell_of_row _ _ _ _ _ _ b1]; rfl
  have p2 : w1.cell? ⟨w.heap.size + 1, 2, none⟩ = some (.int .i64 0) := by rw [cell_of_row _ _ _ _ _ _ b1]; rfl
  have p3 : w1.cell? ⟨w.heap.size + 1, 3, none⟩ = some (.int .i64 0) := by rw [cell_of_row _ _ _ _ _ _ b1]; rfl
  have q0 : w1.cell? ⟨w.heap.size + 1 + 1, 0, none⟩ = some (.string ByteArray.empty) := by rw [cell_of_row _ _ _ _ _ _ b2]; rfl
  have q1 : w1.cell? ⟨w.heap.size + 1 + 1, 1, none⟩ = some (.int .i64 0) := by rw [cell_of_row _ _ _ _ _ _ b2]; rfl
  have q2 : w1.cell? ⟨w.heap.size + 1 + 1, 2, none⟩ = some (.int .i64 0) := by rw [cell_of_row _ _ _ _ _ _ b2]; rfl
  have q3 : w1.cell? ⟨w.heap.size + 1 + 1, 3, none⟩ = some (.int .i64 0) := by rw [cell_of_row _ _ _ _ _ _ b2]; rfl
  have zp := frozen_blk b1
  have zq := frozen_blk b2
  have HB1 := hid b1
  clear hfr b1 b2 hnf1 hnf2
  go_wp2_with fail
  refine bodyPost_ret (v := ansV ByteArray.empty r 0 0) (results_cell_row Try.results16 _ _ _ _ _ _ _ rfl (Go.heap_setCell_same _ _ 3 _ _ _ (Go.heap_setCell_same _ _ 2 _ _ _ (Go.heap_setCell_same _ _ 1 _ _ _ (Go.heap_setCell_same _ _ 0 _ _ _ ((Below.heap_setCell _ _ _ _ (by simp)).trans (HB1.out)))))) Try.underlying44 rfl (by kernel_rfl)) rfl ⟨rfl, HFIN.out _ _ _ [w.heap.size + 1, w.heap.size + 1 + 1] HT.out (((Fr.refl [] w).alloc _).alloc _ |>.alloc _) ?_ (by simp; omega)⟩
  exact ((((((Fr.refl [w.heap.size + 1, w.heap.size + 1 + 1] w1).set (.inl (by simp)) _).set (.inl (by simp)) _).set (.inl (by simp)) _).set (.inl (by simp)) _).set (.inl (by simp)) _)


set_option maxRecDepth 20000 in
set_option maxHeartbeats 2000000 in
theorem gact_sweep (x : Nat) (P : Asn) (hP : Framed P) (f : List Nat) (b c : Int) (s : ByteArray) (w : World) (hwi : ∀ y ∈ f, y < w.heap.size) (r : Int)
    (hC : ∀ W, Fr [] w W → Calls Try.prog 24 #[.pointer (some ⟨x, 0, none⟩)] W fun e w' => e = .returned (.int .i64 r) ∧ ATo P f W w') :
    Calls Try.prog 16 #[.pointer (some ⟨x, 0, none⟩), actV 10 b c s] w fun e w' => e = .returned (ansV ByteArray.empty r 0 0) ∧ ATo P f w w' := by
  have HC := hid hC
  have HFIN : Hid (∀ W w1 w2 S, ATo P f W w1 → Fr [] w W → Fr S w1 w2 → (∀ y ∈ S, w.heap.size ≤ y ∧ y < W.heap.size) → ATo P f w w2) := hid (fun W w1 w2 S h1 h0 k hS => h1.scratch hP h0 hwi k hS)
  have hnf1 : w.heap.size + 1 ∉ f := fun e => by have := hwi _ e; omega
  have hnf2 : w.heap.size + 1 + 1 ∉ f := fun e => by have := hwi _ e; omega
  clear hC hwi
  go_enter Try.func16, Try.ntmps16
  go_wp2_with fail
  go_at_call 24
  refine (HC.out _ (((Fr.refl [] w).alloc _).alloc _ |>.alloc _)).mono ?_
  rintro e w1 ⟨rfl, ht⟩
  have HT := hid ht
  obtain ⟨_, _, _, _, hfr⟩ := ht
  have b1 : w1.heap[w.heap.size + 1]? = some (.cells #[.string ByteArray.empty, .int .i64 0, .int .i64 0, .int .i64 0] 44 (0, 0)) := (hfr.block _ (by simp) hnf1).trans ((Below.heap_alloc _ _ _ (by simp)).trans (heap_alloc_at (by simp)))
  have b2 : w1.heap[w.heap.size + 1 + 1]? = some (.cells #[.string ByteArray.empty, .int .i64 0, .int .i64 0, .int .i64 0] 44 (0, 0)) := (hfr.block _ (by simp) hnf2).trans (heap_alloc_at (by simp))
  have p0 : w1.cell? ⟨w.heap.size + 1, 0, none⟩ = some (.string ByteArray.empty) := by rw [cell_of_row _ _ _ _ _ _ b1]; rfl
  have p1 : w1.cell? ⟨w.heap.size + 1, 1, none⟩ = some (.int .i64 0) := by rw [cell_of_row _ _ _ _ _ _ b1]; rfl
  have p2 : w1.cell? ⟨w.heap.size + 1, 2, none⟩ = some (.int .i64 0) := by rw [cell_of_row _ _ _ _ _ _ b1]; rfl
  have p3 : w1.cell? ⟨w.heap.size + 1, 3, none⟩ = some (.int .i64 0) := by rw [cell_of_row _ _ _ _ _ _ b1]; rfl
  have q0 : w1.cell? ⟨w.heap.size + 1 + 1, 0, none⟩ = some (.string ByteArray.empty) := by rw [cell_of_row _ _ _ _ _ _ b2]; rfl
  have q1 : w1.cell? ⟨w.heap.size + 1 + 1, 1, none⟩ = some (.int .i64 0) := by rw [cell_of_row _ _ _ _ _ _ b2]; rfl
  have q2 : w1.cell? ⟨w.heap.size + 1 + 1, 2, none⟩ = some (.int .i64 0) := by rw [cell_of_row _ _ _ _ _ _ b2]; rfl
  have q3 : w1.cell? ⟨w.heap.size + 1 + 1, 3, none⟩ = some (.int .i64 0) := by rw [cell_of_row _ _ _ _ _ _ b2]; rfl
  have zp := frozen_blk b1
  have zq := frozen_blk b2
  have HB1 := hid b1
  clear hfr b1 b2 hnf1 hnf2
  go_wp2_with fail
  refine bodyPost_ret (v := ansV ByteArray.empty r 0 0) (results_cell_row Try.results16 _ _ _ _ _ _ _ rfl (Go.heap_setCell_same _ _ 3 _ _ _ (Go.heap_setCell_same _ _ 2 _ _ _ (Go.heap_setCell_same _ _ 1 _ _ _ (Go.heap_setCell_same _ _ 0 _ _ _ ((Below.heap_setCell _ _ _ _ (by simp)).trans (HB1.out)))))) Try.underlying44 rfl (by kernel_rfl)) rfl ⟨rfl, HFIN.out _ _ _ [w.heap.size + 1, w.heap.size + 1 + 1] HT.out (((Fr.refl [] w).alloc _).alloc _ |>.alloc _) ?_ (by simp; omega)⟩
  exact ((((((Fr.refl [w.heap.size + 1, w.heap.size + 1 + 1] w1).set (.inl (by simp)) _).set (.inl (by simp)) _).set (.inl (by simp)) _).set (.inl (by simp)) _).set (.inl (by simp)) _)


set_option maxRecDepth 20000 in
set_option maxHeartbeats 2000000 in
/-- An act of another kind does nothing. -/
theorem gact_none (x : Nat) (P : Asn) (hP : Framed P) (f : List Nat) (kd b c : Int) (s : ByteArray) (w : World) (h0 : P w f) (hn : f.Nodup) (hk : kd < 1 ∨ 10 < kd) :
    Calls Try.prog 16 #[.pointer (some ⟨x, 0, none⟩), actV kd b c s] w fun e w' => e = .returned (ansV ByteArray.empty 0 0 0) ∧ ATo P f w w' := by
  have HFIN : Hid (∀ w2, Fr [] w w2 → ATo P f w w2) := hid (fun w2 r => ⟨f, hP h0 r (by simp), hn, fun _ hy => .inl hy, r.mono (fun k hk => by cases hk)⟩)
  have e1 : kd ≠ 1 := by omega
  have e2 : kd ≠ 2 := by omega
  have e3 : kd ≠ 3 := by omega
  have e4 : kd ≠ 4 := by omega
  have e5 : kd ≠ 5 := by omega
  have e6 : kd ≠ 6 := by omega
  have e7 : kd ≠ 7 := by omega
  have e8 : kd ≠ 8 := by omega
  have e9 : kd ≠ 9 := by omega
  have e10 : kd ≠ 10 := by omega
  clear hk h0
  go_enter Try.func16, Try.ntmps16
  go_wp2_with fail
  refine bodyPost_ret (v := ansV ByteArray.empty 0 0 0) (results_cell_row Try.results16 _ _ _ _ _ _ _ rfl ((Below.heap_alloc _ _ _ (by simp)).trans (heap_alloc_at (by simp))) Try.underlying44 rfl (by kernel_rfl)) rfl ⟨rfl, HFIN.out _ (((Fr.refl [] w).alloc _).alloc _ |>.alloc _)⟩

end Go.Proofs.Ythlhbjnkohinmaa
