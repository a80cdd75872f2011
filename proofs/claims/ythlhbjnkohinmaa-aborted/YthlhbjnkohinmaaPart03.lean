import Derived.Test.YthlhbjnkohinmaaPart02
/- The program's instantiations: as values; which is ahead. -/
namespace Go.Proofs.Ythlhbjnkohinmaa
open Go.RowKit

/-- The latest of some facts' times. -/
def latF (l : List PFact) : Int := l.foldl (fun m q => if q.2.2 > m then q.2.2 else m) 0
theorem latF_snoc (l : List PFact) (q : PFact) : latF (l ++ [q]) = if q.2.2 > latF l then q.2.2 else latF l := by unfold latF; rw [List.foldl_append]; rfl
/-- The fact at a place: nothing but zeros where there is none. -/
def ftA (l : List PFact) (k : Nat) : PFact := l.getD k (0, 0, 0)
/-- An instantiation's cells; wt: its rule's weight. -/
def inCells (wt : Int) (i : In) : List Value :=
  [.int .i64 i.rule, .int .i64 wt, .int .i64 (latF i.facts), .int .i64 i.facts.length,
    .int .i64 (((ftA i.facts 0).1 : Int) / 10), .int .i64 (((ftA i.facts 0).1 : Int) % 10), .int .i64 (ftA i.facts 0).2.1, .int .i64 (ftA i.facts 0).2.2,
    .int .i64 (((ftA i.facts 1).1 : Int) / 10), .int .i64 (((ftA i.facts 1).1 : Int) % 10), .int .i64 (ftA i.facts 1).2.1, .int .i64 (ftA i.facts 1).2.2,
    .int .i64 (((ftA i.facts 2).1 : Int) / 10), .int .i64 (((ftA i.facts 2).1 : Int) % 10), .int .i64 (ftA i.facts 2).2.1, .int .i64 (ftA i.facts 2).2.2,
    .bool (dB i.env 0), .bool (dB i.env 1), .bool (dB i.env 2), .bool (dB i.env 3), .int .i64 (dI i.env 0), .int .i64 (dI i.env 1), .int .i64 (dI i.env 2), .int .i64 (dI i.env 3)]
def inV (wt : Int) (i : In) : Value := .agg (inCells wt i).toArray

/-- Which of two is ahead, by weight and latest time. -/
def ahB (wa la wb lb : Int) : Bool := if wa ≠ wb then decide (wa > wb) else decide (la > lb)

set_option maxRecDepth 20000 in
set_option maxHeartbeats 4000000 in
theorem pahead_cells (A B : Array Value) (wa la wb lb : Int) (w : World) (a1 : A[1]? = some (.int .i64 wa)) (a2 : A[2]? = some (.int .i64 la)) (b1 : B[1]? = some (.int .i64 wb)) (b2 : B[2]? = some (.int .i64 lb)) :
    Calls Try.prog 77 #[.agg A, .agg B] w fun r w' => r = .returned (.bool (ahB wa la wb lb)) ∧ w.grownBy w' none := by
  obtain ⟨r, hr⟩ : ∃ r, r = ahB wa la wb lb := ⟨_, rfl⟩
  rw [← hr]
  have k1 : (w.alloc (.cells A 138)).heap[w.heap.size]? = some (.cells A 138 (0, 0)) := pblk_at rfl
  have k2 : ((w.alloc (.cells A 138)).alloc (.cells B 138)).heap[w.heap.size]? = some (.cells A 138 (0, 0)) := (Below.heap_alloc _ _ _ (lt_of_block k1)).trans k1
  have k3 : ((w.alloc (.cells A 138)).alloc (.cells B 138)).heap[w.heap.size + 1]? = some (.cells B 138 (0, 0)) := pblk_at (by simp)
  have d1 : ((w.alloc (.cells A 138)).alloc (.cells B 138)).cell? ⟨w.heap.size, 1, none⟩ = some (.int .i64 wa) := by rw [cell_of_row _ _ _ _ _ _ k2]; exact a1
  have d2 : ((w.alloc (.cells A 138)).alloc (.cells B 138)).cell? ⟨w.heap.size, 2, none⟩ = some (.int .i64 la) := by rw [cell_of_row _ _ _ _ _ _ k2]; exact a2
  have d3 : ((w.alloc (.cells A 138)).alloc (.cells B 138)).cell? ⟨w.heap.size + 1, 1, none⟩ = some (.int .i64 wb) := by rw [cell_of_row _ _ _ _ _ _ k3]; exact b1
  have d4 : ((w.alloc (.cells A 138)).alloc (.cells B 138)).cell? ⟨w.heap.size + 1, 2, none⟩ = some (.int .i64 lb) := by rw [cell_of_row _ _ _ _ _ _ k3]; exact b2
  have HWA : Hid (w.grownBy ((w.alloc (.cells A 138)).alloc (.cells B 138)) none) := hid (grown_alloc (grown_alloc (grown_refl _ _) _) _)
  clear k1 k2 k3 a1 a2 b1 b2
  go_enter Try.func77, Try.ntmps77
  by_cases hw : wa = wb
  · subst hw
    have q : (wa != wa) = false := by simp
    have hr' : r = decide (la > lb) := by rw [hr]; unfold ahB; rw [if_neg (by simp)]
    clear hr
    go_wp2_with fail
    go_ret
    exact ⟨by rw [hr']; rfl, HWA.out⟩
  · have q : (wa != wb) = true := by simpa using hw
    have hr' : r = decide (wa > wb) := by rw [hr]; unfold ahB; rw [if_pos hw]
    clear hr
    go_wp2_with fail
    go_ret
    exact ⟨by rw [hr']; rfl, HWA.out⟩

theorem pahead_any (va vb : Int) (a b : In) (w : World) :
    Calls Try.prog 77 #[inV va a, inV vb b] w fun r w' => r = .returned (.bool (ahB va (latF a.facts) vb (latF b.facts))) ∧ w.grownBy w' none :=
  pahead_cells _ _ va _ vb _ w rfl rfl rfl rfl

end Go.Proofs.Ythlhbjnkohinmaa

/- The program's instantiations: one with a fact more. -/
namespace Go.Proofs.Ythlhbjnkohinmaa
open Go.RowKit

theorem range_of_blk {w : World} {b : Nat} {A : Array Value} {t : TypeId} {cs : List Value} (h : w.heap[b]? = some (.cells A t (0, 0))) (hA : A.toList = cs) : w.rangeAt b 0 cs := fun j v hv => by
  rw [cell_of_row _ _ _ _ _ _ h, Nat.zero_add, ← hv, ← hA]
  simp
theorem hs_ne {w : World} {k b i : Nat} {u : Value} (h : k ≠ b) : (w.setCell ⟨b, i, none⟩ u).heap[k]? = w.heap[k]? := Below.heap_setCell w ⟨b, i, none⟩ u k h
theorem blk_setCells {b : Nat} {t : TypeId} : ∀ (vs : List Value) (o : Nat) (w : World) (p q r : List Value), p.length = o → r.length = vs.length → w.heap[b]? = some (.cells (p ++ r ++ q).toArray t (0, 0)) → (w.setCells b o vs).heap[b]? = some (.cells (p ++ vs ++ q).toArray t (0, 0))
  | [], _, w, p, q, r, _, hr, h => by
    have : r = [] := by cases r with | nil => rfl | cons a l => cases hr
    rw [this] at h
    exact h
  | v :: vs, o, w, p, q, r, hp, hr, h => by
    cases r with
    | nil => cases hr
    | cons x r =>
      have h1 := blk_setCell h o v
      have e : (p ++ x :: r ++ q).toArray.setIfInBounds o v = ((p ++ [v]) ++ r ++ q).toArray := by
        rw [List.setIfInBounds_toArray, ← hp]
        simp
      rw [e] at h1
      have := blk_setCells vs (o + 1) (w.setCell ⟨b, o, none⟩ v) (p ++ [v]) q r (by simp [hp]) (by simpa using hr) h1
      rw [World.setCells, this]
      simp

set_option maxRecDepth 20000 in
set_option maxHeartbeats 800000 in
theorem pinst_no (rl wt lt n x0 x1 x2 x3 x4 x5 x6 x7 x8 x9 x10 x11 : Int) (a0 a1 a2 a3 : Bool) (a4 a5 a6 a7 : Int) (k c s p1 p2 q1 q2 y0 y1 y2 y3 : Int) (w : World)
    (HGO : Hid (∀ W, Calls Try.prog 95 #[.agg #[.bool a0, .bool a1, .bool a2, .bool a3, .int .i64 a4, .int .i64 a5, .int .i64 a6, .int .i64 a7], .agg #[.int .i64 k, .int .i64 c, .int .u8 s, .int .i64 p1, .int .i64 p2, .int .i64 q1, .int .i64 q2], .agg #[.int .i64 y0, .int .i64 y1, .int .i64 y2, .int .i64 y3]] W fun r w' => (∃ g0 g1 g2 g3 g4 g5 g6 g7, r = .returned (.tuple #[.agg #[.bool g0, .bool g1, .bool g2, .bool g3, .int .i64 g4, .int .i64 g5, .int .i64 g6, .int .i64 g7], .bool false])) ∧ W.grownBy w' none)) :
    Calls Try.prog 85 #[.agg #[.int .i64 rl, .int .i64 wt, .int .i64 lt, .int .i64 n, .int .i64 x0, .int .i64 x1, .int .i64 x2, .int .i64 x3, .int .i64 x4, .int .i64 x5, .int .i64 x6, .int .i64 x7, .int .i64 x8, .int .i64 x9, .int .i64 x10, .int .i64 x11, .bool a0, .bool a1, .bool a2, .bool a3, .int .i64 a4, .int .i64 a5, .int .i64 a6, .int .i64 a7], .agg #[.int .i64 k, .int .i64 c, .int .u8 s, .int .i64 p1, .int .i64 p2, .int .i64 q1, .int .i64 q2], .agg #[.int .i64 y0, .int .i64 y1, .int .i64 y2, .int .i64 y3]] w fun r w' => r = .returned (.tuple #[.agg #[.int .i64 rl, .int .i64 wt, .int .i64 lt, .int .i64 n, .int .i64 x0, .int .i64 x1, .int .i64 x2, .int .i64 x3, .int .i64 x4, .int .i64 x5, .int .i64 x6, .int .i64 x7, .int .i64 x8, .int .i64 x9, .int .i64 x10, .int .i64 x11, .bool a0, .bool a1, .bool a2, .bool a3, .int .i64 a4, .int .i64 a5, .int .i64 a6, .int .i64 a7], .bool false]) ∧ w.grownBy w' none := by
  have HWA : Hid (w.grownBy ((((w.alloc (.cells #[.int .i64 rl, .int .i64 wt, .int .i64 lt, .int .i64 n, .int .i64 x0, .int .i64 x1, .int .i64 x2, .int .i64 x3, .int .i64 x4, .int .i64 x5, .int .i64 x6, .int .i64 x7, .int .i64 x8, .int .i64 x9, .int .i64 x10, .int .i64 x11, .bool a0, .bool a1, .bool a2, .bool a3, .int .i64 a4, .int .i64 a5, .int .i64 a6, .int .i64 a7] 138)).alloc (.cells #[.int .i64 k, .int .i64 c, .int .u8 s, .int .i64 p1, .int .i64 p2, .int .i64 q1, .int .i64 q2] 163)).alloc (.cells #[.int .i64 y0, .int .i64 y1, .int .i64 y2, .int .i64 y3] 97)).alloc (.cells #[.int .i64 0, .int .i64 0, .int .i64 0, .int .i64 0, .int .i64 0, .int .i64 0, .int .i64 0, .int .i64 0, .int .i64 0, .int .i64 0, .int .i64 0, .int .i64 0, .int .i64 0, .int .i64 0, .int .i64 0, .int .i64 0, .bool false, .bool false, .bool false, .bool false, .int .i64 0, .int .i64 0, .int .i64 0, .int .i64 0] 138)) none) := hid (grown_alloc (grown_alloc (grown_alloc (grown_alloc (grown_refl _ _) _) _) _) _)
  have HB0 : Hid (((((w.alloc (.cells #[.int .i64 rl, .int .i64 wt, .int .i64 lt, .int .i64 n, .int .i64 x0, .int .i64 x1, .int .i64 x2, .int .i64 x3, .int .i64 x4, .int .i64 x5, .int .i64 x6, .int .i64 x7, .int .i64 x8, .int .i64 x9, .int .i64 x10, .int .i64 x11, .bool a0, .bool a1, .bool a2, .bool a3, .int .i64 a4, .int .i64 a5, .int .i64 a6, .int .i64 a7] 138)).alloc (.cells #[.int .i64 k, .int .i64 c, .int .u8 s, .int .i64 p1, .int .i64 p2, .int .i64 q1, .int .i64 q2] 163)).alloc (.cells #[.int .i64 y0, .int .i64 y1, .int .i64 y2, .int .i64 y3] 97)).alloc (.cells #[.int .i64 0, .int .i64 0, .int .i64 0, .int .i64 0, .int .i64 0, .int .i64 0, .int .i64 0, .int .i64 0, .int .i64 0, .int .i64 0, .int .i64 0, .int .i64 0, .int .i64 0, .int .i64 0, .int .i64 0, .int .i64 0, .bool false, .bool false, .bool false, .bool false, .int .i64 0, .int .i64 0, .int .i64 0, .int .i64 0] 138)).heap[w.heap.size]? = some (.cells #[.int .i64 rl, .int .i64 wt, .int .i64 lt, .int .i64 n, .int .i64 x0, .int .i64 x1, .int .i64 x2, .int .i64 x3, .int .i64 x4, .int .i64 x5, .int .i64 x6, .int .i64 x7, .int .i64 x8, .int .i64 x9, .int .i64 x10, .int .i64 x11, .bool a0, .bool a1, .bool a2, .bool a3, .int .i64 a4, .int .i64 a5, .int .i64 a6, .int .i64 a7] 138 (0, 0))) := hid (by
    rw [Below.heap_alloc _ _ _ (by simp; omega), Below.heap_alloc _ _ _ (by simp; omega), Below.heap_alloc _ _ _ (by simp)]
    exact pblk_at rfl)
  have HB2 : Hid (((((w.alloc (.cells #[.int .i64 rl, .int .i64 wt, .int .i64 lt, .int .i64 n, .int .i64 x0, .int .i64 x1, .int .i64 x2, .int .i64 x3, .int .i64 x4, .int .i64 x5, .int .i64 x6, .int .i64 x7, .int .i64 x8, .int .i64 x9, .int .i64 x10, .int .i64 x11, .bool a0, .bool a1, .bool a2, .bool a3, .int .i64 a4, .int .i64 a5, .int .i64 a6, .int .i64 a7] 138)).alloc (.cells #[.int .i64 k, .int .i64 c, .int .u8 s, .int .i64 p1, .int .i64 p2, .int .i64 q1, .int .i64 q2] 163)).alloc (.cells #[.int .i64 y0, .int .i64 y1, .int .i64 y2, .int .i64 y3] 97)).alloc (.cells #[.int .i64 0, .int .i64 0, .int .i64 0, .int .i64 0, .int .i64 0, .int .i64 0, .int .i64 0, .int .i64 0, .int .i64 0, .int .i64 0, .int .i64 0, .int .i64 0, .int .i64 0, .int .i64 0, .int .i64 0, .int .i64 0, .bool false, .bool false, .bool false, .bool false, .int .i64 0, .int .i64 0, .int .i64 0, .int .i64 0] 138)).heap[w.heap.size + 1 + 1]? = some (.cells #[.int .i64 y0, .int .i64 y1, .int .i64 y2, .int .i64 y3] 97 (0, 0))) := hid (by
    rw [Below.heap_alloc _ _ _ (by simp)]
    exact pblk_at (by simp))
  have HB3 : Hid (((((w.alloc (.cells #[.int .i64 rl, .int .i64 wt, .int .i64 lt, .int .i64 n, .int .i64 x0, .int .i64 x1, .int .i64 x2, .int .i64 x3, .int .i64 x4, .int .i64 x5, .int .i64 x6, .int .i64 x7, .int .i64 x8, .int .i64 x9, .int .i64 x10, .int .i64 x11, .bool a0, .bool a1, .bool a2, .bool a3, .int .i64 a4, .int .i64 a5, .int .i64 a6, .int .i64 a7] 138)).alloc (.cells #[.int .i64 k, .int .i64 c, .int .u8 s, .int .i64 p1, .int .i64 p2, .int .i64 q1, .int .i64 q2] 163)).alloc (.cells #[.int .i64 y0, .int .i64 y1, .int .i64 y2, .int .i64 y3] 97)).alloc (.cells #[.int .i64 0, .int .i64 0, .int .i64 0, .int .i64 0, .int .i64 0, .int .i64 0, .int .i64 0, .int .i64 0, .int .i64 0, .int .i64 0, .int .i64 0, .int .i64 0, .int .i64 0, .int .i64 0, .int .i64 0, .int .i64 0, .bool false, .bool false, .bool false, .bool false, .int .i64 0, .int .i64 0, .int .i64 0, .int .i64 0] 138)).heap[w.heap.size + 1 + 1 + 1]? = some (.cells #[.int .i64 0, .int .i64 0, .int .i64 0, .int .i64 0, .int .i64 0, .int .i64 0, .int .i64 0, .int .i64 0, .int .i64 0, .int .i64 0, .int .i64 0, .int .i64 0, .int .i64 0, .int .i64 0, .int .i64 0, .int .i64 0, .bool false, .bool false, .bool false, .bool false, .int .i64 0, .int .i64 0, .int .i64 0, .int .i64 0] 138 (0, 0))) := hid (pblk_at (by simp))
  go_enter Try.func85, Try.ntmps85
  go_wp2_with fail
  go_at_call 95
  refine (HGO.out _).mono ?_
  rintro e w1 ⟨⟨g0, g1, g2, g3, g4, g5, g6, g7, rfl⟩, hg1⟩
  have HG1 := hid hg1
  clear hg1
  have hB0 := (HG1.out.block _ (lt_of_block HB0.out) (by simp)).trans HB0.out
  have hB2 := (HG1.out.block _ (lt_of_block HB2.out) (by simp)).trans HB2.out
  have hB3 := (HG1.out.block _ (lt_of_block HB3.out) (by simp)).trans HB3.out
  have HG2 : Hid (w.grownBy w1 none) := hid (grown_trans HWA.out HG1.out)
  have HS0 : Hid (∀ W i v, w.grownBy W none → w.grownBy (W.setCell ⟨w.heap.size, i, none⟩ v) none) := hid (fun W i v h => grown_set h (.inr (by show w.heap.size ≤ w.heap.size; omega)) _)
  have HS3 : Hid (∀ W i v, w.grownBy W none → w.grownBy (W.setCell ⟨w.heap.size + 1 + 1 + 1, i, none⟩ v) none) := hid (fun W i v h => grown_set h (.inr (by show w.heap.size ≤ w.heap.size + 1 + 1 + 1; omega)) _)
  have HSS : Hid (∀ W l, w.grownBy W none → w.grownBy (W.setCells (w.heap.size + 1 + 1 + 1) 0 l) none) := hid (fun W l h => grown_setCells (by omega) _ _ h)
  have HS1 : Hid (∀ W i v, w.grownBy W none → w.grownBy (W.setCell ⟨w1.heap.size, i, none⟩ v) none) := hid (fun W i v h => grown_set h (.inr (by show w.heap.size ≤ w1.heap.size; exact HG2.out.size)) _)
  have m0 : (w.heap.size + 1 + 1) ≠ w.heap.size := by omega
  have m1 : (w.heap.size + 1 + 1 + 1) ≠ w.heap.size := by omega
  have m2 : (w.heap.size + 1 + 1 + 1) ≠ (w.heap.size + 1 + 1) := by omega
  have l0 := lt_of_block hB0
  have l2 := lt_of_block hB2
  have l3 := lt_of_block hB3
  clear HWA HB0 HB2 HB3 HG1
  generalize w.heap.size + 1 + 1 + 1 = b3 at hB3 HS3 HSS m1 m2 l3 ⊢
  generalize w.heap.size + 1 + 1 = b2 at hB2 m0 m2 l2 ⊢
  generalize w.heap.size + 1 = b1
  generalize w.heap.size = b0 at hB0 HS0 m0 m1 l0 ⊢
  have n0 : b0 ≠ w1.heap.size := by omega
  have n2 : b2 ≠ w1.heap.size := by omega
  have n3 : b3 ≠ w1.heap.size := by omega
  have m0' := m0.symm
  have m1' := m1.symm
  have m2' := m2.symm
  have ka0 : w1.cell? ⟨b0, 0, none⟩ = some (.int .i64 rl) := by rw [cell_of_row _ _ _ _ _ _ hB0]; rfl
  have ka1 : w1.cell? ⟨b0, 1, none⟩ = some (.int .i64 wt) := by rw [cell_of_row _ _ _ _ _ _ hB0]; rfl
  have ka2 : w1.cell? ⟨b0, 2, none⟩ = some (.int .i64 lt) := by rw [cell_of_row _ _ _ _ _ _ hB0]; rfl
  have ka3 : w1.cell? ⟨b0, 3, none⟩ = some (.int .i64 n) := by rw [cell_of_row _ _ _ _ _ _ hB0]; rfl
  have ka4 : w1.cell? ⟨b0, 4, none⟩ = some (.int .i64 x0) := by rw [cell_of_row _ _ _ _ _ _ hB0]; rfl
  have ka5 : w1.cell? ⟨b0, 5, none⟩ = some (.int .i64 x1) := by rw [cell_of_row _ _ _ _ _ _ hB0]; rfl
  have ka6 : w1.cell? ⟨b0, 6, none⟩ = some (.int .i64 x2) := by rw [cell_of_row _ _ _ _ _ _ hB0]; rfl
  have ka7 : w1.cell? ⟨b0, 7, none⟩ = some (.int .i64 x3) := by rw [cell_of_row _ _ _ _ _ _ hB0]; rfl
  have ka8 : w1.cell? ⟨b0, 8, none⟩ = some (.int .i64 x4) := by rw [cell_of_row _ _ _ _ _ _ hB0]; rfl
  have ka9 : w1.cell? ⟨b0, 9, none⟩ = some (.int .i64 x5) := by rw [cell_of_row _ _ _ _ _ _ hB0]; rfl
  have ka10 : w1.cell? ⟨b0, 10, none⟩ = some (.int .i64 x6) := by rw [cell_of_row _ _ _ _ _ _ hB0]; rfl
  have ka11 : w1.cell? ⟨b0, 11, none⟩ = some (.int .i64 x7) := by rw [cell_of_row _ _ _ _ _ _ hB0]; rfl
  have ka12 : w1.cell? ⟨b0, 12, none⟩ = some (.int .i64 x8) := by rw [cell_of_row _ _ _ _ _ _ hB0]; rfl
  have ka13 : w1.cell? ⟨b0, 13, none⟩ = some (.int .i64 x9) := by rw [cell_of_row _ _ _ _ _ _ hB0]; rfl
  have ka14 : w1.cell? ⟨b0, 14, none⟩ = some (.int .i64 x10) := by rw [cell_of_row _ _ _ _ _ _ hB0]; rfl
  have ka15 : w1.cell? ⟨b0, 15, none⟩ = some (.int .i64 x11) := by rw [cell_of_row _ _ _ _ _ _ hB0]; rfl
  have ka16 : w1.cell? ⟨b0, 16, none⟩ = some (.bool a0) := by rw [cell_of_row _ _ _ _ _ _ hB0]; rfl
  have ka17 : w1.cell? ⟨b0, 17, none⟩ = some (.bool a1) := by rw [cell_of_row _ _ _ _ _ _ hB0]; rfl
  have ka18 : w1.cell? ⟨b0, 18, none⟩ = some (.bool a2) := by rw [cell_of_row _ _ _ _ _ _ hB0]; rfl
  have ka19 : w1.cell? ⟨b0, 19, none⟩ = some (.bool a3) := by rw [cell_of_row _ _ _ _ _ _ hB0]; rfl
  have ka20 : w1.cell? ⟨b0, 20, none⟩ = some (.int .i64 a4) := by rw [cell_of_row _ _ _ _ _ _ hB0]; rfl
  have ka21 : w1.cell? ⟨b0, 21, none⟩ = some (.int .i64 a5) := by rw [cell_of_row _ _ _ _ _ _ hB0]; rfl
  have ka22 : w1.cell? ⟨b0, 22, none⟩ = some (.int .i64 a6) := by rw [cell_of_row _ _ _ _ _ _ hB0]; rfl
  have ka23 : w1.cell? ⟨b0, 23, none⟩ = some (.int .i64 a7) := by rw [cell_of_row _ _ _ _ _ _ hB0]; rfl
  have kf0 : w1.cell? ⟨b2, 0, none⟩ = some (.int .i64 y0) := by rw [cell_of_row _ _ _ _ _ _ hB2]; rfl
  have kf1 : w1.cell? ⟨b2, 1, none⟩ = some (.int .i64 y1) := by rw [cell_of_row _ _ _ _ _ _ hB2]; rfl
  have kf2 : w1.cell? ⟨b2, 2, none⟩ = some (.int .i64 y2) := by rw [cell_of_row _ _ _ _ _ _ hB2]; rfl
  have kf3 : w1.cell? ⟨b2, 3, none⟩ = some (.int .i64 y3) := by rw [cell_of_row _ _ _ _ _ _ hB2]; rfl
  have kz0 : w1.cell? ⟨b3, 0, none⟩ = some (.int .i64 0) := by rw [cell_of_row _ _ _ _ _ _ hB3]; rfl
  have kz1 : w1.cell? ⟨b3, 1, none⟩ = some (.int .i64 0) := by rw [cell_of_row _ _ _ _ _ _ hB3]; rfl
  have kz2 : w1.cell? ⟨b3, 2, none⟩ = some (.int .i64 0) := by rw [cell_of_row _ _ _ _ _ _ hB3]; rfl
  have kz3 : w1.cell? ⟨b3, 3, none⟩ = some (.int .i64 0) := by rw [cell_of_row _ _ _ _ _ _ hB3]; rfl
  have kz4 : w1.cell? ⟨b3, 4, none⟩ = some (.int .i64 0) := by rw [cell_of_row _ _ _ _ _ _ hB3]; rfl
  have kz5 : w1.cell? ⟨b3, 5, none⟩ = some (.int .i64 0) := by rw [cell_of_row _ _ _ _ _ _ hB3]; rfl
  have kz6 : w1.cell? ⟨b3, 6, none⟩ = some (.int .i64 0) := by rw [cell_of_row _ _ _ _ _ _ hB3]; rfl
  have kz7 : w1.cell? ⟨b3, 7, none⟩ = some (.int .i64 0) := by rw [cell_of_row _ _ _ _ _ _ hB3]; rfl
  have kz8 : w1.cell? ⟨b3, 8, none⟩ = some (.int .i64 0) := by rw [cell_of_row _ _ _ _ _ _ hB3]; rfl
  have kz9 : w1.cell? ⟨b3, 9, none⟩ = some (.int .i64 0) := by rw [cell_of_row _ _ _ _ _ _ hB3]; rfl
  have kz10 : w1.cell? ⟨b3, 10, none⟩ = some (.int .i64 0) := by rw [cell_of_row _ _ _ _ _ _ hB3]; rfl
  have kz11 : w1.cell? ⟨b3, 11, none⟩ = some (.int .i64 0) := by rw [cell_of_row _ _ _ _ _ _ hB3]; rfl
  have kz12 : w1.cell? ⟨b3, 12, none⟩ = some (.int .i64 0) := by rw [cell_of_row _ _ _ _ _ _ hB3]; rfl
  have kz13 : w1.cell? ⟨b3, 13, none⟩ = some (.int .i64 0) := by rw [cell_of_row _ _ _ _ _ _ hB3]; rfl
  have kz14 : w1.cell? ⟨b3, 14, none⟩ = some (.int .i64 0) := by rw [cell_of_row _ _ _ _ _ _ hB3]; rfl
  have kz15 : w1.cell? ⟨b3, 15, none⟩ = some (.int .i64 0) := by rw [cell_of_row _ _ _ _ _ _ hB3]; rfl
  have kz16 : w1.cell? ⟨b3, 16, none⟩ = some (.bool false) := by rw [cell_of_row _ _ _ _ _ _ hB3]; rfl
  have kz17 : w1.cell? ⟨b3, 17, none⟩ = some (.bool false) := by rw [cell_of_row _ _ _ _ _ _ hB3]; rfl
  have kz18 : w1.cell? ⟨b3, 18, none⟩ = some (.bool false) := by rw [cell_of_row _ _ _ _ _ _ hB3]; rfl
  have kz19 : w1.cell? ⟨b3, 19, none⟩ = some (.bool false) := by rw [cell_of_row _ _ _ _ _ _ hB3]; rfl
  have kz20 : w1.cell? ⟨b3, 20, none⟩ = some (.int .i64 0) := by rw [cell_of_row _ _ _ _ _ _ hB3]; rfl
  have kz21 : w1.cell? ⟨b3, 21, none⟩ = some (.int .i64 0) := by rw [cell_of_row _ _ _ _ _ _ hB3]; rfl
  have kz22 : w1.cell? ⟨b3, 22, none⟩ = some (.int .i64 0) := by rw [cell_of_row _ _ _ _ _ _ hB3]; rfl
  have kz23 : w1.cell? ⟨b3, 23, none⟩ = some (.int .i64 0) := by rw [cell_of_row _ _ _ _ _ _ hB3]; rfl
  have za0 : w1.frozen? ⟨b0, 0, none⟩ = false := frozen_blk hB0 _
  have za1 : w1.frozen? ⟨b0, 1, none⟩ = false := frozen_blk hB0 _
  have za2 : w1.frozen? ⟨b0, 2, none⟩ = false := frozen_blk hB0 _
  have za3 : w1.frozen? ⟨b0, 3, none⟩ = false := frozen_blk hB0 _
  have za4 : w1.frozen? ⟨b0, 4, none⟩ = false := frozen_blk hB0 _
  have za5 : w1.frozen? ⟨b0, 5, none⟩ = false := frozen_blk hB0 _
  have za6 : w1.frozen? ⟨b0, 6, none⟩ = false := frozen_blk hB0 _
  have za7 : w1.frozen? ⟨b0, 7, none⟩ = false := frozen_blk hB0 _
  have za8 : w1.frozen? ⟨b0, 8, none⟩ = false := frozen_blk hB0 _
  have za9 : w1.frozen? ⟨b0, 9, none⟩ = false := frozen_blk hB0 _
  have za10 : w1.frozen? ⟨b0, 10, none⟩ = false := frozen_blk hB0 _
  have za11 : w1.frozen? ⟨b0, 11, none⟩ = false := frozen_blk hB0 _
  have za12 : w1.frozen? ⟨b0, 12, none⟩ = false := frozen_blk hB0 _
  have za13 : w1.frozen? ⟨b0, 13, none⟩ = false := frozen_blk hB0 _
  have za14 : w1.frozen? ⟨b0, 14, none⟩ = false := frozen_blk hB0 _
  have za15 : w1.frozen? ⟨b0, 15, none⟩ = false := frozen_blk hB0 _
  have za16 : w1.frozen? ⟨b0, 16, none⟩ = false := frozen_blk hB0 _
  have za17 : w1.frozen? ⟨b0, 17, none⟩ = false := frozen_blk hB0 _
  have za18 : w1.frozen? ⟨b0, 18, none⟩ = false := frozen_blk hB0 _
  have za19 : w1.frozen? ⟨b0, 19, none⟩ = false := frozen_blk hB0 _
  have za20 : w1.frozen? ⟨b0, 20, none⟩ = false := frozen_blk hB0 _
  have za21 : w1.frozen? ⟨b0, 21, none⟩ = false := frozen_blk hB0 _
  have za22 : w1.frozen? ⟨b0, 22, none⟩ = false := frozen_blk hB0 _
  have za23 : w1.frozen? ⟨b0, 23, none⟩ = false := frozen_blk hB0 _
  have zz0 : w1.frozen? ⟨b3, 0, none⟩ = false := frozen_blk hB3 _
  have zz1 : w1.frozen? ⟨b3, 1, none⟩ = false := frozen_blk hB3 _
  have zz2 : w1.frozen? ⟨b3, 2, none⟩ = false := frozen_blk hB3 _
  have zz3 : w1.frozen? ⟨b3, 3, none⟩ = false := frozen_blk hB3 _
  have zz4 : w1.frozen? ⟨b3, 4, none⟩ = false := frozen_blk hB3 _
  have zz5 : w1.frozen? ⟨b3, 5, none⟩ = false := frozen_blk hB3 _
  have zz6 : w1.frozen? ⟨b3, 6, none⟩ = false := frozen_blk hB3 _
  have zz7 : w1.frozen? ⟨b3, 7, none⟩ = false := frozen_blk hB3 _
  have zz8 : w1.frozen? ⟨b3, 8, none⟩ = false := frozen_blk hB3 _
  have zz9 : w1.frozen? ⟨b3, 9, none⟩ = false := frozen_blk hB3 _
  have zz10 : w1.frozen? ⟨b3, 10, none⟩ = false := frozen_blk hB3 _
  have zz11 : w1.frozen? ⟨b3, 11, none⟩ = false := frozen_blk hB3 _
  have zz12 : w1.frozen? ⟨b3, 12, none⟩ = false := frozen_blk hB3 _
  have zz13 : w1.frozen? ⟨b3, 13, none⟩ = false := frozen_blk hB3 _
  have zz14 : w1.frozen? ⟨b3, 14, none⟩ = false := frozen_blk hB3 _
  have zz15 : w1.frozen? ⟨b3, 15, none⟩ = false := frozen_blk hB3 _
  have zz16 : w1.frozen? ⟨b3, 16, none⟩ = false := frozen_blk hB3 _
  have zz17 : w1.frozen? ⟨b3, 17, none⟩ = false := frozen_blk hB3 _
  have zz18 : w1.frozen? ⟨b3, 18, none⟩ = false := frozen_blk hB3 _
  have zz19 : w1.frozen? ⟨b3, 19, none⟩ = false := frozen_blk hB3 _
  have zz20 : w1.frozen? ⟨b3, 20, none⟩ = false := frozen_blk hB3 _
  have zz21 : w1.frozen? ⟨b3, 21, none⟩ = false := frozen_blk hB3 _
  have zz22 : w1.frozen? ⟨b3, 22, none⟩ = false := frozen_blk hB3 _
  have zz23 : w1.frozen? ⟨b3, 23, none⟩ = false := frozen_blk hB3 _
  obtain ⟨L, hL⟩ : ∃ L : List Value, L = [.int .i64 rl, .int .i64 wt, .int .i64 lt, .int .i64 n, .int .i64 x0, .int .i64 x1, .int .i64 x2, .int .i64 x3, .int .i64 x4, .int .i64 x5, .int .i64 x6, .int .i64 x7, .int .i64 x8, .int .i64 x9, .int .i64 x10, .int .i64 x11, .bool a0, .bool a1, .bool a2, .bool a3, .int .i64 a4, .int .i64 a5, .int .i64 a6, .int .i64 a7] := ⟨_, rfl⟩
  have hlen : L.length = 24 := by rw [hL]; rfl
  have HLL : Hid (L.toArray = #[.int .i64 rl, .int .i64 wt, .int .i64 lt, .int .i64 n, .int .i64 x0, .int .i64 x1, .int .i64 x2, .int .i64 x3, .int .i64 x4, .int .i64 x5, .int .i64 x6, .int .i64 x7, .int .i64 x8, .int .i64 x9, .int .i64 x10, .int .i64 x11, .bool a0, .bool a1, .bool a2, .bool a3, .int .i64 a4, .int .i64 a5, .int .i64 a6, .int .i64 a7]) := hid (by rw [hL])
  have HRG : Hid (∀ o, (w1.alloc o).rangeAt b0 0 L) := hid (fun o => range_of_blk ((Below.heap_alloc _ _ _ l0).trans hB0) (by rw [hL]))
  have HTH : Hid (∀ o, (w1.alloc o).there b3 0 L.toArray.size) := hid (fun o => there_blk (show _ = L.toArray.size from by rw [show L.toArray.size = 24 from hlen]; rfl) ((Below.heap_alloc _ _ _ l3).trans hB3))
  have HIN : Hid ((Try.prog.info? 138).map (·.size) = some L.length) := hid (by rw [hlen]; kernel_rfl)
  have HIS : Hid ((Try.prog.info? 138).map (·.size) = some L.toArray.size) := hid (by rw [List.size_toArray, hlen]; kernel_rfl)
  have HONE : Hid (L.toArray.all (·.oneCell') = true) := hid (all_oneCell_toArray (by rw [hL]; simp [Value.oneCell']))
  have HBL : Hid (∀ o, ((w1.alloc o).setCells b3 0 L).heap[b3]? = some (.cells L.toArray 138 (0, 0))) := hid (fun o => by
    have := blk_setCells L 0 (w1.alloc o) [] [] [.int .i64 0, .int .i64 0, .int .i64 0, .int .i64 0, .int .i64 0, .int .i64 0, .int .i64 0, .int .i64 0, .int .i64 0, .int .i64 0, .int .i64 0, .int .i64 0, .int .i64 0, .int .i64 0, .int .i64 0, .int .i64 0, .bool false, .bool false, .bool false, .bool false, .int .i64 0, .int .i64 0, .int .i64 0, .int .i64 0] rfl (by rw [hlen]; rfl) ((Below.heap_alloc _ _ _ l3).trans hB3)
    simpa using this)
  clear hL hB0 hB2 hB3 l0 l2 l3
  go_wp2_with (first
    | (refine wpList_load_mid rfl 138 (.tmp 3) rfl b0 0 rfl L _ (HRG.out _) Try.underlying138 rfl HIN.out ?_)
    | (refine wpList_store_mid rfl 138 (.tmp 6) (.tmp 30) rfl b3 0 L.toArray rfl rfl (HTH.out _) HIS.out HONE.out ?_))
  refine bodyPost_ret (res_ct Try.results85 rfl (HBL.out _) Try.underlying138 rfl HIS.out rfl) rfl ⟨by rw [HLL.out]; rfl, ?_⟩
  exact HSS.out _ _ (grown_alloc HG2.out _)

end Go.Proofs.Ythlhbjnkohinmaa

/- The program's instantiations: one with a fact more, where it goes. -/
namespace Go.Proofs.Ythlhbjnkohinmaa
open Go.RowKit

/-- Some cells of a list written anew. -/
def setL : List Value → Nat → List Value → List Value
  | A, _, [] => A
  | A, o, v :: vs => setL (A.set o v) (o + 1) vs
theorem setL_len : ∀ (vs : List Value) (A : List Value) (o : Nat), (setL A o vs).length = A.length
  | [], _, _ => rfl
  | _ :: vs, A, o => by rw [setL, setL_len vs]; simp
theorem setL_ne : ∀ (vs : List Value) (A : List Value) (o i : Nat), i < o ∨ o + vs.length ≤ i → (setL A o vs)[i]? = A[i]?
  | [], _, _, _, _ => rfl
  | v :: vs, A, o, i, h => by
    rw [setL, setL_ne vs _ _ _ (by simp at h; omega), List.getElem?_set_ne (by simp at h; omega)]
theorem setL_one {p : Value → Bool} : ∀ (vs : List Value) (A : List Value) (o : Nat), (∀ v ∈ A, p v = true) → (∀ v ∈ vs, p v = true) → ∀ v ∈ setL A o vs, p v = true
  | [], _, _, h, _ => h
  | x :: vs, A, o, h, h2 => by
    rw [setL]
    refine setL_one vs _ _ (fun v hv => ?_) (fun v hv => h2 v (by simp [hv]))
    rcases List.mem_or_eq_of_mem_set hv with h3 | h3
    · exact h v h3
    · rw [h3]; exact h2 x (by simp)
theorem blk_setL {b : Nat} {t : TypeId} : ∀ (vs : List Value) (o : Nat) (A : List Value) (w : World), w.heap[b]? = some (.cells A.toArray t (0, 0)) → (w.setCells b o vs).heap[b]? = some (.cells (setL A o vs).toArray t (0, 0))
  | [], _, _, _, h => h
  | v :: vs, o, A, w, h => by
    have h1 := blk_setCell h o v
    rw [List.setIfInBounds_toArray] at h1
    exact blk_setL vs (o + 1) _ _ h1
theorem blk_setCell_list {w : World} {b : Nat} {A : List Value} {t : TypeId} (h : w.heap[b]? = some (.cells A.toArray t (0, 0))) (i : Nat) (u : Value) : (w.setCell ⟨b, i, none⟩ u).heap[b]? = some (.cells (A.set i u).toArray t (0, 0)) := by
  have h1 := blk_setCell h i u
  rw [List.setIfInBounds_toArray] at h1
  exact h1
theorem hsc_ne {k b : Nat} : ∀ (vs : List Value) (o : Nat) (w : World), k ≠ b → (w.setCells b o vs).heap[k]? = w.heap[k]?
  | [], _, _, _ => rfl
  | v :: vs, o, w, h => by
    rw [World.setCells, hsc_ne vs _ _ h]
    exact hs_ne h
theorem hsc_size {b : Nat} : ∀ (vs : List Value) (o : Nat) (w : World), (w.setCells b o vs).heap.size = w.heap.size
  | [], _, _ => rfl
  | v :: vs, o, w => by
    rw [World.setCells, hsc_size vs]
    simp [World.setCell]
theorem range_drop {w : World} {b o : Nat} {A cs : List Value} {t : TypeId} (h : w.heap[b]? = some (.cells A.toArray t (0, 0))) (hA : ∀ j v, cs[j]? = some v → A[o + j]? = some v) : w.rangeAt b o cs := fun j v hv => by
  rw [cell_of_row _ _ _ _ _ _ h]
  simpa using hA j v hv
theorem there_drop {w : World} {b o m : Nat} {A : List Value} {t : TypeId} (h : w.heap[b]? = some (.cells A.toArray t (0, 0))) (hA : o + m ≤ A.length) : w.there b o m := fun j hj => by
  refine ⟨?_, frozen_blk h _⟩
  rw [cell_of_row _ _ _ _ _ _ h]
  simp
  omega
theorem cell_list {w : World} {b i : Nat} {A : List Value} {t : TypeId} {v : Value} (h : w.heap[b]? = some (.cells A.toArray t (0, 0))) (hA : A[i]? = some v) : w.cell? ⟨b, i, none⟩ = some v := by
  rw [cell_of_row _ _ _ _ _ _ h]
  simpa using hA
theorem getElem?_lt_some {A : List Value} {i : Nat} (h : i < A.length) : ∃ v, A[i]? = some v := ⟨A[i], List.getElem?_eq_getElem h⟩
theorem info_inst : (Try.prog.info? 138).map (·.size) = some 24 := by kernel_rfl
theorem info_dig : (Try.prog.info? 136).map (·.size) = some 8 := by kernel_rfl
theorem info_cond : (Try.prog.info? 163).map (·.size) = some 7 := by kernel_rfl
theorem info_fact : (Try.prog.info? 97).map (·.size) = some 4 := by kernel_rfl

set_option maxRecDepth 20000 in
set_option maxHeartbeats 1000000 in
theorem pinst_oke (A C Q G : List Value) (lt y : Int) (n : Nat) (hn : n < 3) (hA : A.length = 24) (hC : C.length = 7) (hQ : Q.length = 4) (hG : G.length = 8)
    (a2 : A[2]? = some (.int .i64 lt)) (a3 : A[3]? = some (.int .i64 n)) (q3 : Q[3]? = some (.int .i64 y))
    (oA : ∀ v ∈ A, v.oneCell' = true) (oQ : ∀ v ∈ Q, v.oneCell' = true) (oG : ∀ v ∈ G, v.oneCell' = true) (hlt : y ≤ lt) (w : World)
    (HGO : Hid (∀ W, Calls Try.prog 95 #[.agg (A.drop 16).toArray, .agg C.toArray, .agg Q.toArray] W fun r w' => r = .returned (.tuple #[.agg G.toArray, .bool true]) ∧ W.grownBy w' none)) :
    Calls Try.prog 85 #[.agg A.toArray, .agg C.toArray, .agg Q.toArray] w fun r w' => r = .returned (.tuple #[.agg ((setL (setL A 16 G) (4 + n * 4) Q).set 3 (.int .i64 (n + 1))).toArray, .bool true]) ∧ w.grownBy w' none := by
  obtain ⟨R, hR⟩ : ∃ R, R = ((setL (setL A 16 G) (4 + n * 4) Q).set 3 (.int .i64 (n + 1))) := ⟨_, rfl⟩
  rw [← hR]
  have HR := hid hR
  clear hR
  have HWA : Hid (w.grownBy ((((w.alloc (.cells A.toArray 138)).alloc (.cells C.toArray 163)).alloc (.cells Q.toArray 97)).alloc (.cells #[.int .i64 0, .int .i64 0, .int .i64 0, .int .i64 0, .int .i64 0, .int .i64 0, .int .i64 0, .int .i64 0, .int .i64 0, .int .i64 0, .int .i64 0, .int .i64 0, .int .i64 0, .int .i64 0, .int .i64 0, .int .i64 0, .bool false, .bool false, .bool false, .bool false, .int .i64 0, .int .i64 0, .int .i64 0, .int .i64 0] 138)) none) := hid (grown_alloc (grown_alloc (grown_alloc (grown_alloc (grown_refl _ _) _) _) _) _)
  have hb0 : ((((w.alloc (.cells A.toArray 138)).alloc (.cells C.toArray 163)).alloc (.cells Q.toArray 97)).alloc (.cells #[.int .i64 0, .int .i64 0, .int .i64 0, .int .i64 0, .int .i64 0, .int .i64 0, .int .i64 0, .int .i64 0, .int .i64 0, .int .i64 0, .int .i64 0, .int .i64 0, .int .i64 0, .int .i64 0, .int .i64 0, .int .i64 0, .bool false, .bool false, .bool false, .bool false, .int .i64 0, .int .i64 0, .int .i64 0, .int .i64 0] 138)).heap[w.heap.size]? = some (.cells A.toArray 138 (0, 0)) := by
    rw [Below.heap_alloc _ _ _ (by simp; omega), Below.heap_alloc _ _ _ (by simp; omega), Below.heap_alloc _ _ _ (by simp)]
    exact pblk_at rfl
  have hb1 : ((((w.alloc (.cells A.toArray 138)).alloc (.cells C.toArray 163)).alloc (.cells Q.toArray 97)).alloc (.cells #[.int .i64 0, .int .i64 0, .int .i64 0, .int .i64 0, .int .i64 0, .int .i64 0, .int .i64 0, .int .i64 0, .int .i64 0, .int .i64 0, .int .i64 0, .int .i64 0, .int .i64 0, .int .i64 0, .int .i64 0, .int .i64 0, .bool false, .bool false, .bool false, .bool false, .int .i64 0, .int .i64 0, .int .i64 0, .int .i64 0] 138)).heap[w.heap.size + 1]? = some (.cells C.toArray 163 (0, 0)) := by
    rw [Below.heap_alloc _ _ _ (by simp), Below.heap_alloc _ _ _ (by simp)]
    exact pblk_at (by simp)
  have hb2 : ((((w.alloc (.cells A.toArray 138)).alloc (.cells C.toArray 163)).alloc (.cells Q.toArray 97)).alloc (.cells #[.int .i64 0, .int .i64 0, .int .i64 0, .int .i64 0, .int .i64 0, .int .i64 0, .int .i64 0, .int .i64 0, .int .i64 0, .int .i64 0, .int .i64 0, .int .i64 0, .int .i64 0, .int .i64 0, .int .i64 0, .int .i64 0, .bool false, .bool false, .bool false, .bool false, .int .i64 0, .int .i64 0, .int .i64 0, .int .i64 0] 138)).heap[w.heap.size + 1 + 1]? = some (.cells Q.toArray 97 (0, 0)) := by
    rw [Below.heap_alloc _ _ _ (by simp)]
    exact pblk_at (by simp)
  have hb3 : ((((w.alloc (.cells A.toArray 138)).alloc (.cells C.toArray 163)).alloc (.cells Q.toArray 97)).alloc (.cells #[.int .i64 0, .int .i64 0, .int .i64 0, .int .i64 0, .int .i64 0, .int .i64 0, .int .i64 0, .int .i64 0, .int .i64 0, .int .i64 0, .int .i64 0, .int .i64 0, .int .i64 0, .int .i64 0, .int .i64 0, .int .i64 0, .bool false, .bool false, .bool false, .bool false, .int .i64 0, .int .i64 0, .int .i64 0, .int .i64 0] 138)).heap[w.heap.size + 1 + 1 + 1]? = some (.cells #[.int .i64 0, .int .i64 0, .int .i64 0, .int .i64 0, .int .i64 0, .int .i64 0, .int .i64 0, .int .i64 0, .int .i64 0, .int .i64 0, .int .i64 0, .int .i64 0, .int .i64 0, .int .i64 0, .int .i64 0, .int .i64 0, .bool false, .bool false, .bool false, .bool false, .int .i64 0, .int .i64 0, .int .i64 0, .int .i64 0] 138 (0, 0)) := pblk_at (by simp)
  have HB0 := hid hb0
  have HB2 := hid hb2
  have HB3 := hid hb3
  have HR0 : Hid (((((w.alloc (.cells A.toArray 138)).alloc (.cells C.toArray 163)).alloc (.cells Q.toArray 97)).alloc (.cells #[.int .i64 0, .int .i64 0, .int .i64 0, .int .i64 0, .int .i64 0, .int .i64 0, .int .i64 0, .int .i64 0, .int .i64 0, .int .i64 0, .int .i64 0, .int .i64 0, .int .i64 0, .int .i64 0, .int .i64 0, .int .i64 0, .bool false, .bool false, .bool false, .bool false, .int .i64 0, .int .i64 0, .int .i64 0, .int .i64 0] 138)).rangeAt w.heap.size 16 (A.drop 16)) := hid (range_drop hb0 (fun j v hv => by rw [List.getElem?_drop] at hv; exact hv))
  have HR1 : Hid (((((w.alloc (.cells A.toArray 138)).alloc (.cells C.toArray 163)).alloc (.cells Q.toArray 97)).alloc (.cells #[.int .i64 0, .int .i64 0, .int .i64 0, .int .i64 0, .int .i64 0, .int .i64 0, .int .i64 0, .int .i64 0, .int .i64 0, .int .i64 0, .int .i64 0, .int .i64 0, .int .i64 0, .int .i64 0, .int .i64 0, .int .i64 0, .bool false, .bool false, .bool false, .bool false, .int .i64 0, .int .i64 0, .int .i64 0, .int .i64 0] 138)).rangeAt (w.heap.size + 1) 0 C) := hid (range_drop hb1 (fun j v hv => by rw [Nat.zero_add]; exact hv))
  have HR2 : Hid (((((w.alloc (.cells A.toArray 138)).alloc (.cells C.toArray 163)).alloc (.cells Q.toArray 97)).alloc (.cells #[.int .i64 0, .int .i64 0, .int .i64 0, .int .i64 0, .int .i64 0, .int .i64 0, .int .i64 0, .int .i64 0, .int .i64 0, .int .i64 0, .int .i64 0, .int .i64 0, .int .i64 0, .int .i64 0, .int .i64 0, .int .i64 0, .bool false, .bool false, .bool false, .bool false, .int .i64 0, .int .i64 0, .int .i64 0, .int .i64 0] 138)).rangeAt (w.heap.size + 1 + 1) 0 Q) := hid (range_drop hb2 (fun j v hv => by rw [Nat.zero_add]; exact hv))
  obtain ⟨D, hD⟩ : ∃ D, D = A.drop 16 := ⟨_, rfl⟩
  rw [← hD] at HR0 HGO
  have hDl : D.length = 8 := by rw [hD]; simp [hA]
  have HID : Hid ((Try.prog.info? 136).map (·.size) = some D.length) := hid (by rw [hDl]; exact info_dig)
  have HIC : Hid ((Try.prog.info? 163).map (·.size) = some C.length) := hid (by rw [hC]; exact info_cond)
  have HIQ : Hid ((Try.prog.info? 97).map (·.size) = some Q.length) := hid (by rw [hQ]; exact info_fact)
  have HIG : Hid ((Try.prog.info? 136).map (·.size) = some G.length) := hid (by rw [hG]; exact info_dig)
  have HA := hid hA
  have HQ := hid hQ
  have HG := hid hG
  have HA2 := hid a2
  have HA3 := hid a3
  have HQ3 := hid q3
  have HOA := hid oA
  have HOQ := hid oQ
  have HOG := hid oG
  clear hD hb0 hb1 hb2 hb3 a2 a3 q3 oA oQ oG
  go_enter Try.func85, Try.ntmps85
  go_wp2_with (first
    | (refine wpList_load_mid rfl 136 (.tmp 11) rfl w.heap.size 16 rfl D _ HR0.out Try.underlying136 rfl HID.out ?_)
    | (refine wpList_load_mid rfl 163 (.tmp 4) rfl (w.heap.size + 1) 0 rfl C _ HR1.out Try.underlying163 rfl HIC.out ?_)
    | (refine wpList_load_mid rfl 97 (.tmp 5) rfl (w.heap.size + 1 + 1) 0 rfl Q _ HR2.out Try.underlying97 rfl HIQ.out ?_))
  go_at_call 95
  refine (HGO.out _).mono ?_
  rintro e w1 ⟨rfl, hg1⟩
  have HG1 := hid hg1
  clear hg1
  have hB0 := (HG1.out.block _ (lt_of_block HB0.out) (by simp)).trans HB0.out
  have hB2 := (HG1.out.block _ (lt_of_block HB2.out) (by simp)).trans HB2.out
  have hB3 := (HG1.out.block _ (lt_of_block HB3.out) (by simp)).trans HB3.out
  have HG2 : Hid (w.grownBy w1 none) := hid (grown_trans HWA.out HG1.out)
  have l0 := lt_of_block hB0
  have l2 := lt_of_block hB2
  have l3 := lt_of_block hB3
  have HS0 : Hid (∀ W i v, w.grownBy W none → w.grownBy (W.setCell ⟨w.heap.size, i, none⟩ v) none) := hid (fun W i v h => grown_set h (.inr (by show w.heap.size ≤ w.heap.size; omega)) _)
  have HSS : Hid (∀ W b o l, w.heap.size ≤ b → w.grownBy W none → w.grownBy (W.setCells b o l) none) := hid (fun W b o l hb h => grown_setCells hb _ _ h)
  have m0 : (w.heap.size + 1 + 1) ≠ w.heap.size := by omega
  have m1 : (w.heap.size + 1 + 1 + 1) ≠ w.heap.size := by omega
  have s3 : w.heap.size ≤ w.heap.size + 1 + 1 + 1 := by omega
  have s4 : w.heap.size ≤ w1.heap.size := by omega
  clear HWA HB0 HB2 HB3 HG1 HR0 HR1 HR2 HGO HID HIC hDl hC
  generalize w.heap.size + 1 + 1 + 1 = b3 at hB3 HSS m1 l3 s3 ⊢
  generalize w.heap.size + 1 + 1 = b2 at hB2 m0 l2 ⊢
  generalize w.heap.size + 1 = b1
  generalize w.heap.size = b0 at hB0 HS0 HSS m0 m1 l0 s3 s4 ⊢
  have z0 : (w1.alloc (.cells #[.bool false, .bool false, .bool false, .bool false, .int .i64 0, .int .i64 0, .int .i64 0, .int .i64 0] 136)).heap[w1.heap.size]? = some (.cells #[.bool false, .bool false, .bool false, .bool false, .int .i64 0, .int .i64 0, .int .i64 0, .int .i64 0] 136 (0, 0)) := pblk_at rfl
  have z1 : (w1.alloc (.cells #[.bool false, .bool false, .bool false, .bool false, .int .i64 0, .int .i64 0, .int .i64 0, .int .i64 0] 136)).heap[b0]? = some (.cells A.toArray 138 (0, 0)) := (Below.heap_alloc _ _ _ l0).trans hB0
  have z2 : (w1.alloc (.cells #[.bool false, .bool false, .bool false, .bool false, .int .i64 0, .int .i64 0, .int .i64 0, .int .i64 0] 136)).heap[b2]? = some (.cells Q.toArray 97 (0, 0)) := (Below.heap_alloc _ _ _ l2).trans hB2
  have z3 : (w1.alloc (.cells #[.bool false, .bool false, .bool false, .bool false, .int .i64 0, .int .i64 0, .int .i64 0, .int .i64 0] 136)).heap[b3]? = some (.cells #[.int .i64 0, .int .i64 0, .int .i64 0, .int .i64 0, .int .i64 0, .int .i64 0, .int .i64 0, .int .i64 0, .int .i64 0, .int .i64 0, .int .i64 0, .int .i64 0, .int .i64 0, .int .i64 0, .int .i64 0, .int .i64 0, .bool false, .bool false, .bool false, .bool false, .int .i64 0, .int .i64 0, .int .i64 0, .int .i64 0] 138 (0, 0)) := (Below.heap_alloc _ _ _ l3).trans hB3
  have n0 : b0 ≠ w1.heap.size := by omega
  have n2 : b2 ≠ w1.heap.size := by omega
  have n3 : b3 ≠ w1.heap.size := by omega
  have HT1 : Hid ((w1.alloc (.cells #[.bool false, .bool false, .bool false, .bool false, .int .i64 0, .int .i64 0, .int .i64 0, .int .i64 0] 136)).there w1.heap.size 0 G.toArray.size) := hid (by
    change _ = some (Obj.cells ([.bool false, .bool false, .bool false, .bool false, .int .i64 0, .int .i64 0, .int .i64 0, .int .i64 0] : List Value).toArray 136 (0, 0)) at z0
    exact there_drop z0 (by simp [HG.out]))
  obtain ⟨W1, hW1⟩ : ∃ W, W = (w1.alloc (.cells #[.bool false, .bool false, .bool false, .bool false, .int .i64 0, .int .i64 0, .int .i64 0, .int .i64 0] 136)).setCells w1.heap.size 0 G := ⟨_, rfl⟩
  have y0 : W1.heap[b0]? = some (.cells A.toArray 138 (0, 0)) := by rw [hW1, hsc_ne _ _ _ n0]; exact z1
  have y2 : W1.heap[b2]? = some (.cells Q.toArray 97 (0, 0)) := by rw [hW1, hsc_ne _ _ _ n2]; exact z2
  have y3 : W1.heap[b3]? = some (.cells #[.int .i64 0, .int .i64 0, .int .i64 0, .int .i64 0, .int .i64 0, .int .i64 0, .int .i64 0, .int .i64 0, .int .i64 0, .int .i64 0, .int .i64 0, .int .i64 0, .int .i64 0, .int .i64 0, .int .i64 0, .int .i64 0, .bool false, .bool false, .bool false, .bool false, .int .i64 0, .int .i64 0, .int .i64 0, .int .i64 0] 138 (0, 0)) := by rw [hW1, hsc_ne _ _ _ n3]; exact z3
  have HRG : Hid (W1.rangeAt w1.heap.size 0 G) := hid (by
    rw [hW1]
    refine World.rangeAt_setCells_same _ _ _ _ ?_
    have := HT1.out
    simpa using this)
  have gW1 : w.grownBy W1 none := by rw [hW1]; exact HSS.out _ _ _ _ (by omega) (grown_alloc HG2.out _)
  obtain ⟨W2, hW2⟩ : ∃ W, W = W1.setCells b0 16 G := ⟨_, rfl⟩
  have x0 : W2.heap[b0]? = some (.cells (setL A 16 G).toArray 138 (0, 0)) := by rw [hW2]; exact blk_setL _ _ _ _ y0
  have x2 : W2.heap[b2]? = some (.cells Q.toArray 97 (0, 0)) := by rw [hW2, hsc_ne _ _ _ m0]; exact y2
  have x3 : W2.heap[b3]? = some (.cells #[.int .i64 0, .int .i64 0, .int .i64 0, .int .i64 0, .int .i64 0, .int .i64 0, .int .i64 0, .int .i64 0, .int .i64 0, .int .i64 0, .int .i64 0, .int .i64 0, .int .i64 0, .int .i64 0, .int .i64 0, .int .i64 0, .bool false, .bool false, .bool false, .bool false, .int .i64 0, .int .i64 0, .int .i64 0, .int .i64 0] 138 (0, 0)) := by rw [hW2, hsc_ne _ _ _ m1]; exact y3
  have gW2 : w.grownBy W2 none := by rw [hW2]; exact HSS.out _ _ _ _ (Nat.le_refl _) gW1
  obtain ⟨W3, hW3⟩ : ∃ W, W = W2.setCells b0 (4 + n * 4) Q := ⟨_, rfl⟩
  have v0 : W3.heap[b0]? = some (.cells (setL (setL A 16 G) (4 + n * 4) Q).toArray 138 (0, 0)) := by rw [hW3]; exact blk_setL _ _ _ _ x0
  have v2 : W3.heap[b2]? = some (.cells Q.toArray 97 (0, 0)) := by rw [hW3, hsc_ne _ _ _ m0]; exact x2
  have v3 : W3.heap[b3]? = some (.cells #[.int .i64 0, .int .i64 0, .int .i64 0, .int .i64 0, .int .i64 0, .int .i64 0, .int .i64 0, .int .i64 0, .int .i64 0, .int .i64 0, .int .i64 0, .int .i64 0, .int .i64 0, .int .i64 0, .int .i64 0, .int .i64 0, .bool false, .bool false, .bool false, .bool false, .int .i64 0, .int .i64 0, .int .i64 0, .int .i64 0] 138 (0, 0)) := by rw [hW3, hsc_ne _ _ _ m1]; exact x3
  have gW3 : w.grownBy W3 none := by rw [hW3]; exact HSS.out _ _ _ _ (Nat.le_refl _) gW2
  have e16 : ∀ i, i < 16 → (setL A 16 G)[i]? = A[i]? := fun i hi => setL_ne _ _ _ _ (.inl hi)
  have e4 : ∀ i, i < 4 → (setL (setL A 16 G) (4 + n * 4) Q)[i]? = A[i]? := fun i hi => (setL_ne _ _ _ _ (.inl (by omega))).trans (e16 i (by omega))
  have HT2 : Hid (W1.there b0 16 G.toArray.size) := hid (there_drop y0 (by simp [HA.out, HG.out]))
  have HT3 : Hid (W2.there b0 (4 + n * 4) Q.toArray.size) := hid (there_drop x0 (by rw [setL_len]; simp [HA.out, HQ.out]; omega))
  have HR2 : Hid (W2.rangeAt b2 0 Q) := hid (range_drop x2 (fun j v hv => by rw [Nat.zero_add]; exact hv))
  have k1 : W1.cell? ⟨b0, 3, none⟩ = some (.int .i64 n) := cell_list y0 HA3.out
  have k2 : W2.cell? ⟨b0, 3, none⟩ = some (.int .i64 n) := cell_list x0 ((e16 3 (by omega)).trans HA3.out)
  have k3 : W3.cell? ⟨b0, 3, none⟩ = some (.int .i64 n) := cell_list v0 ((e4 3 (by omega)).trans HA3.out)
  have k4 : W3.cell? ⟨b0, 2, none⟩ = some (.int .i64 lt) := cell_list v0 ((e4 2 (by omega)).trans HA2.out)
  have k5 : W3.cell? ⟨b2, 3, none⟩ = some (.int .i64 y) := cell_list v2 HQ3.out
  have k6 : W3.frozen? ⟨b0, 3, none⟩ = false := frozen_blk v0 _
  have k7 : W3.frozen? ⟨b0, 2, none⟩ = false := frozen_blk v0 _
  have hR0 : (W3.setCell ⟨b0, 3, none⟩ (.int .i64 (n + 1))).heap[b0]? = some (.cells ((setL (setL A 16 G) (4 + n * 4) Q).set 3 (.int .i64 (n + 1))).toArray 138 (0, 0)) := blk_setCell_list v0 _ _
  have hR3 : (W3.setCell ⟨b0, 3, none⟩ (.int .i64 (n + 1))).heap[b3]? = some (.cells #[.int .i64 0, .int .i64 0, .int .i64 0, .int .i64 0, .int .i64 0, .int .i64 0, .int .i64 0, .int .i64 0, .int .i64 0, .int .i64 0, .int .i64 0, .int .i64 0, .int .i64 0, .int .i64 0, .int .i64 0, .int .i64 0, .bool false, .bool false, .bool false, .bool false, .int .i64 0, .int .i64 0, .int .i64 0, .int .i64 0] 138 (0, 0)) := (hs_ne m1).trans v3
  have gW5 : w.grownBy (W3.setCell ⟨b0, 3, none⟩ (.int .i64 (n + 1))) none := HS0.out _ _ _ gW3
  have oR : ∀ v ∈ ((setL (setL A 16 G) (4 + n * 4) Q).set 3 (.int .i64 (n + 1))), v.oneCell' = true := by
    intro v hv
    have h4 := setL_one (p := (·.oneCell')) Q _ (4 + n * 4) (setL_one G A 16 HOA.out HOG.out) HOQ.out
    rcases List.mem_or_eq_of_mem_set hv with h1 | h1
    · exact h4 v h1
    · rw [h1]; rfl
  have hRl : ((setL (setL A 16 G) (4 + n * 4) Q).set 3 (.int .i64 (n + 1))).length = 24 := by simp [setL_len, HA.out]
  rw [← HR.out] at hR0 oR hRl
  have HRR : Hid ((W3.setCell ⟨b0, 3, none⟩ (.int .i64 (n + 1))).rangeAt b0 0 R) := hid (range_drop hR0 (fun j v hv => by rw [Nat.zero_add]; exact hv))
  have HT9 : Hid ((W3.setCell ⟨b0, 3, none⟩ (.int .i64 (n + 1))).there b3 0 R.toArray.size) := hid (by
    change _ = some (Obj.cells ([.int .i64 0, .int .i64 0, .int .i64 0, .int .i64 0, .int .i64 0, .int .i64 0, .int .i64 0, .int .i64 0, .int .i64 0, .int .i64 0, .int .i64 0, .int .i64 0, .int .i64 0, .int .i64 0, .int .i64 0, .int .i64 0, .bool false, .bool false, .bool false, .bool false, .int .i64 0, .int .i64 0, .int .i64 0, .int .i64 0] : List Value).toArray 138 (0, 0)) at hR3
    exact there_drop hR3 (by simp [hRl]))
  have HIR : Hid ((Try.prog.info? 138).map (·.size) = some R.length) := hid (by rw [hRl]; exact info_inst)
  have HBL : Hid (((W3.setCell ⟨b0, 3, none⟩ (.int .i64 (n + 1))).setCells b3 0 R).heap[b3]? = some (.cells R.toArray 138 (0, 0))) := hid (by
    have := blk_setCells R 0 (W3.setCell ⟨b0, 3, none⟩ (.int .i64 (n + 1))) [] [] [.int .i64 0, .int .i64 0, .int .i64 0, .int .i64 0, .int .i64 0, .int .i64 0, .int .i64 0, .int .i64 0, .int .i64 0, .int .i64 0, .int .i64 0, .int .i64 0, .int .i64 0, .int .i64 0, .int .i64 0, .int .i64 0, .bool false, .bool false, .bool false, .bool false, .int .i64 0, .int .i64 0, .int .i64 0, .int .i64 0] rfl (by rw [hRl]; rfl) (by simpa using hR3)
    simpa using this)
  have HGR : Hid (w.grownBy ((W3.setCell ⟨b0, 3, none⟩ (.int .i64 (n + 1))).setCells b3 0 R) none) := hid (HSS.out _ _ _ _ s3 gW5)
  have HOR : Hid (R.toArray.all (·.oneCell') = true) := hid (all_oneCell_toArray oR)
  have HOGA : Hid (G.toArray.all (·.oneCell') = true) := hid (all_oneCell_toArray HOG.out)
  have HOQA : Hid (Q.toArray.all (·.oneCell') = true) := hid (all_oneCell_toArray HOQ.out)
  have HIGs : Hid ((Try.prog.info? 136).map (·.size) = some G.toArray.size) := hid (by simpa using HIG.out)
  have HIQs : Hid ((Try.prog.info? 97).map (·.size) = some Q.toArray.size) := hid (by simpa using HIQ.out)
  have HIRs : Hid ((Try.prog.info? 138).map (·.size) = some R.toArray.size) := hid (by simpa using HIR.out)
  have HW1 : Hid ((w1.alloc (.cells #[.bool false, .bool false, .bool false, .bool false, .int .i64 0, .int .i64 0, .int .i64 0, .int .i64 0] 136)).setCells w1.heap.size 0 G.toArray.toList = W1) := hid hW1.symm
  have HW2 : Hid (W1.setCells b0 16 G.toArray.toList = W2) := hid hW2.symm
  have HW3 : Hid (W2.setCells b0 (4 + n * 4) Q.toArray.toList = W3) := hid hW3.symm
  have hi0 : (0 : Int) ≤ (n : Int) := by omega
  have hi1 : (n : Int) < 3 := by omega
  have n0' := n0.symm
  have m0' := m0.symm
  clear hW1 hW2 hW3 z0 z1 z2 z3 y0 y2 y3 x0 x2 x3 v0 v2 v3 gW1 gW2 gW3 gW5 e16 e4 hR0 hR3 oR HR hB0 hB2 hB3 l0 l2 l3 HS0 HSS HG2 s3 s4 HA2 HA3 HQ3 HOA HOQ HOG
  go_wp2_with (first
    | (refine wpList_store_mid rfl 136 (.tmp 8) (.tmp 16) rfl w1.heap.size 0 G.toArray rfl rfl HT1.out HIGs.out HOGA.out ?_; rw [HW1.out])
    | (refine wpList_load_mid rfl 136 (.tmp 8) rfl w1.heap.size 0 rfl G _ HRG.out Try.underlying136 rfl HIG.out ?_)
    | (refine wpList_store_mid rfl 136 (.tmp 32) (.tmp 31) rfl b0 16 G.toArray rfl rfl HT2.out HIGs.out HOGA.out ?_; rw [HW2.out])
    | (refine wpList_load_mid rfl 97 (.tmp 5) rfl b2 0 rfl Q _ HR2.out Try.underlying97 rfl HIQ.out ?_)
    | (refine wpList_store_mid rfl 97 (.tmp 37) (.tmp 35) rfl b0 (4 + n * 4) Q.toArray rfl rfl HT3.out HIQs.out HOQA.out ?_; rw [HW3.out])
    | (refine wpList_load_mid rfl 138 (.tmp 3) rfl b0 0 rfl R _ HRR.out Try.underlying138 rfl HIR.out ?_)
    | (refine wpList_store_mid rfl 138 (.tmp 6) (.tmp 50) rfl b3 0 R.toArray rfl rfl HT9.out HIRs.out HOR.out ?_))

  refine bodyPost_ret (res_ct Try.results85 rfl HBL.out Try.underlying138 rfl HIRs.out rfl) rfl ⟨rfl, ?_⟩
  exact HGR.out

set_option maxRecDepth 20000 in
set_option maxHeartbeats 1000000 in
theorem pinst_okl (A C Q G : List Value) (lt y : Int) (n : Nat) (hn : n < 3) (hA : A.length = 24) (hC : C.length = 7) (hQ : Q.length = 4) (hG : G.length = 8)
    (a2 : A[2]? = some (.int .i64 lt)) (a3 : A[3]? = some (.int .i64 n)) (q3 : Q[3]? = some (.int .i64 y))
    (oA : ∀ v ∈ A, v.oneCell' = true) (oQ : ∀ v ∈ Q, v.oneCell' = true) (oG : ∀ v ∈ G, v.oneCell' = true) (hlt : lt < y) (w : World)
    (HGO : Hid (∀ W, Calls Try.prog 95 #[.agg (A.drop 16).toArray, .agg C.toArray, .agg Q.toArray] W fun r w' => r = .returned (.tuple #[.agg G.toArray, .bool true]) ∧ W.grownBy w' none)) :
    Calls Try.prog 85 #[.agg A.toArray, .agg C.toArray, .agg Q.toArray] w fun r w' => r = .returned (.tuple #[.agg (((setL (setL A 16 G) (4 + n * 4) Q).set 3 (.int .i64 (n + 1))).set 2 (.int .i64 y)).toArray, .bool true]) ∧ w.grownBy w' none := by
  obtain ⟨R, hR⟩ : ∃ R, R = (((setL (setL A 16 G) (4 + n * 4) Q).set 3 (.int .i64 (n + 1))).set 2 (.int .i64 y)) := ⟨_, rfl⟩
  rw [← hR]
  have HR := hid hR
  clear hR
  have HWA : Hid (w.grownBy ((((w.alloc (.cells A.toArray 138)).alloc (.cells C.toArray 163)).alloc (.cells Q.toArray 97)).alloc (.cells #[.int .i64 0, .int .i64 0, .int .i64 0, .int .i64 0, .int .i64 0, .int .i64 0, .int .i64 0, .int .i64 0, .int .i64 0, .int .i64 0, .int .i64 0, .int .i64 0, .int .i64 0, .int .i64 0, .int .i64 0, .int .i64 0, .bool false, .bool false, .bool false, .bool false, .int .i64 0, .int .i64 0, .int .i64 0, .int .i64 0] 138)) none) := hid (grown_alloc (grown_alloc (grown_alloc (grown_alloc (grown_refl _ _) _) _) _) _)
  have hb0 : ((((w.alloc (.cells A.toArray 138)).alloc (.cells C.toArray 163)).alloc (.cells Q.toArray 97)).alloc (.cells #[.int .i64 0, .int .i64 0, .int .i64 0, .int .i64 0, .int .i64 0, .int .i64 0, .int .i64 0, .int .i64 0, .int .i64 0, .int .i64 0, .int .i64 0, .int .i64 0, .int .i64 0, .int .i64 0, .int .i64 0, .int .i64 0, .bool false, .bool false, .bool false, .bool false, .int .i64 0, .int .i64 0, .int .i64 0, .int .i64 0] 138)).heap[w.heap.size]? = some (.cells A.toArray 138 (0, 0)) := by
    rw [Below.heap_alloc _ _ _ (by simp; omega), Below.heap_alloc _ _ _ (by simp; omega), Below.heap_alloc _ _ _ (by simp)]
    exact pblk_at rfl
  have hb1 : ((((w.alloc (.cells A.toArray 138)).alloc (.cells C.toArray 163)).alloc (.cells Q.toArray 97)).alloc (.cells #[.int .i64 0, .int .i64 0, .int .i64 0, .int .i64 0, .int .i64 0, .int .i64 0, .int .i64 0, .int .i64 0, .int .i64 0, .int .i64 0, .int .i64 0, .int .i64 0, .int .i64 0, .int .i64 0, .int .i64 0, .int .i64 0, .bool false, .bool false, .bool false, .bool false, .int .i64 0, .int .i64 0, .int .i64 0, .int .i64 0] 138)).heap[w.heap.size + 1]? = some (.cells C.toArray 163 (0, 0)) := by
    rw [Below.heap_alloc _ _ _ (by simp), Below.heap_alloc _ _ _ (by simp)]
    exact pblk_at (by simp)
  have hb2 : ((((w.alloc (.cells A.toArray 138)).alloc (.cells C.toArray 163)).alloc (.cells Q.toArray 97)).alloc (.cells #[.int .i64 0, .int .i64 0, .int .i64 0, .int .i64 0, .int .i64 0, .int .i64 0, .int .i64 0, .int .i64 0, .int .i64 0, .int .i64 0, .int .i64 0, .int .i64 0, .int .i64 0, .int .i64 0, .int .i64 0, .int .i64 0, .bool false, .bool false, .bool false, .bool false, .int .i64 0, .int .i64 0, .int .i64 0, .int .i64 0] 138)).heap[w.heap.size + 1 + 1]? = some (.cells Q.toArray 97 (0, 0)) := by
    rw [Below.heap_alloc _ _ _ (by simp)]
    exact pblk_at (by simp)
  have hb3 : ((((w.alloc (.cells A.toArray 138)).alloc (.cells C.toArray 163)).alloc (.cells Q.toArray 97)).alloc (.cells #[.int .i64 0, .int .i64 0, .int .i64 0, .int .i64 0, .int .i64 0, .int .i64 0, .int .i64 0, .int .i64 0, .int .i64 0, .int .i64 0, .int .i64 0, .int .i64 0, .int .i64 0, .int .i64 0, .int .i64 0, .int .i64 0, .bool false, .bool false, .bool false, .bool false, .int .i64 0, .int .i64 0, .int .i64 0, .int .i64 0] 138)).heap[w.heap.size + 1 + 1 + 1]? = some (.cells #[.int .i64 0, .int .i64 0, .int .i64 0, .int .i64 0, .int .i64 0, .int .i64 0, .int .i64 0, .int .i64 0, .int .i64 0, .int .i64 0, .int .i64 0, .int .i64 0, .int .i64 0, .int .i64 0, .int .i64 0, .int .i64 0, .bool false, .bool false, .bool false, .bool false, .int .i64 0, .int .i64 0, .int .i64 0, .int .i64 0] 138 (0, 0)) := pblk_at (by simp)
  have HB0 := hid hb0
  have HB2 := hid hb2
  have HB3 := hid hb3
  have HR0 : Hid (((((w.alloc (.cells A.toArray 138)).alloc (.cells C.toArray 163)).alloc (.cells Q.toArray 97)).alloc (.cells #[.int .i64 0, .int .i64 0, .int .i64 0, .int .i64 0, .int .i64 0, .int .i64 0, .int .i64 0, .int .i64 0, .int .i64 0, .int .i64 0, .int .i64 0, .int .i64 0, .int .i64 0, .int .i64 0, .int .i64 0, .int .i64 0, .bool false, .bool false, .bool false, .bool false, .int .i64 0, .int .i64 0, .int .i64 0, .int .i64 0] 138)).rangeAt w.heap.size 16 (A.drop 16)) := hid (range_drop hb0 (fun j v hv => by rw [List.getElem?_drop] at hv; exact hv))
  have HR1 : Hid (((((w.alloc (.cells A.toArray 138)).alloc (.cells C.toArray 163)).alloc (.cells Q.toArray 97)).alloc (.cells #[.int .i64 0, .int .i64 0, .int .i64 0, .int .i64 0, .int .i64 0, .int .i64 0, .int .i64 0, .int .i64 0, .int .i64 0, .int .i64 0, .int .i64 0, .int .i64 0, .int .i64 0, .int .i64 0, .int .i64 0, .int .i64 0, .bool false, .bool false, .bool false, .bool false, .int .i64 0, .int .i64 0, .int .i64 0, .int .i64 0] 138)).rangeAt (w.heap.size + 1) 0 C) := hid (range_drop hb1 (fun j v hv => by rw [Nat.zero_add]; exact hv))
  have HR2 : Hid (((((w.alloc (.cells A.toArray 138)).alloc (.cells C.toArray 163)).alloc (.cells Q.toArray 97)).alloc (.cells #[.int .i64 0, .int .i64 0, .int .i64 0, .int .i64 0, .int .i64 0, .int .i64 0, .int .i64 0, .int .i64 0, .int .i64 0, .int .i64 0, .int .i64 0, .int .i64 0, .int .i64 0, .int .i64 0, .int .i64 0, .int .i64 0, .bool false, .bool false, .bool false, .bool false, .int .i64 0, .int .i64 0, .int .i64 0, .int .i64 0] 138)).rangeAt (w.heap.size + 1 + 1) 0 Q) := hid (range_drop hb2 (fun j v hv => by rw [Nat.zero_add]; exact hv))
  obtain ⟨D, hD⟩ : ∃ D, D = A.drop 16 := ⟨_, rfl⟩
  rw [← hD] at HR0 HGO
  have hDl : D.length = 8 := by rw [hD]; simp [hA]
  have HID : Hid ((Try.prog.info? 136).map (·.size) = some D.length) := hid (by rw [hDl]; exact info_dig)
  have HIC : Hid ((Try.prog.info? 163).map (·.size) = some C.length) := hid (by rw [hC]; exact info_cond)
  have HIQ : Hid ((Try.prog.info? 97).map (·.size) = some Q.length) := hid (by rw [hQ]; exact info_fact)
  have HIG : Hid ((Try.prog.info? 136).map (·.size) = some G.length) := hid (by rw [hG]; exact info_dig)
  have HA := hid hA
  have HQ := hid hQ
  have HG := hid hG
  have HA2 := hid a2
  have HA3 := hid a3
  have HQ3 := hid q3
  have HOA := hid oA
  have HOQ := hid oQ
  have HOG := hid oG
  clear hD hb0 hb1 hb2 hb3 a2 a3 q3 oA oQ oG
  go_enter Try.func85, Try.ntmps85
  go_wp2_with (first
    | (refine wpList_load_mid rfl 136 (.tmp 11) rfl w.heap.size 16 rfl D _ HR0.out Try.underlying136 rfl HID.out ?_)
    | (refine wpList_load_mid rfl 163 (.tmp 4) rfl (w.heap.size + 1) 0 rfl C _ HR1.out Try.underlying163 rfl HIC.out ?_)
    | (refine wpList_load_mid rfl 97 (.tmp 5) rfl (w.heap.size + 1 + 1) 0 rfl Q _ HR2.out Try.underlying97 rfl HIQ.out ?_))
  go_at_call 95
  refine (HGO.out _).mono ?_
  rintro e w1 ⟨rfl, hg1⟩
  have HG1 := hid hg1
  clear hg1
  have hB0 := (HG1.out.block _ (lt_of_block HB0.out) (by simp)).trans HB0.out
  have hB2 := (HG1.out.block _ (lt_of_block HB2.out) (by simp)).trans HB2.out
  have hB3 := (HG1.out.block _ (lt_of_block HB3.out) (by simp)).trans HB3.out
  have HG2 : Hid (w.grownBy w1 none) := hid (grown_trans HWA.out HG1.out)
  have l0 := lt_of_block hB0
  have l2 := lt_of_block hB2
  have l3 := lt_of_block hB3
  have HS0 : Hid (∀ W i v, w.grownBy W none → w.grownBy (W.setCell ⟨w.heap.size, i, none⟩ v) none) := hid (fun W i v h => grown_set h (.inr (by show w.heap.size ≤ w.heap.size; omega)) _)
  have HSS : Hid (∀ W b o l, w.heap.size ≤ b → w.grownBy W none → w.grownBy (W.setCells b o l) none) := hid (fun W b o l hb h => grown_setCells hb _ _ h)
  have m0 : (w.heap.size + 1 + 1) ≠ w.heap.size := by omega
  have m1 : (w.heap.size + 1 + 1 + 1) ≠ w.heap.size := by omega
  have s3 : w.heap.size ≤ w.heap.size + 1 + 1 + 1 := by omega
  have s4 : w.heap.size ≤ w1.heap.size := by omega
  clear HWA HB0 HB2 HB3 HG1 HR0 HR1 HR2 HGO HID HIC hDl hC
  generalize w.heap.size + 1 + 1 + 1 = b3 at hB3 HSS m1 l3 s3 ⊢
  generalize w.heap.size + 1 + 1 = b2 at hB2 m0 l2 ⊢
  generalize w.heap.size + 1 = b1
  generalize w.heap.size = b0 at hB0 HS0 HSS m0 m1 l0 s3 s4 ⊢
  have z0 : (w1.alloc (.cells #[.bool false, .bool false, .bool false, .bool false, .int .i64 0, .int .i64 0, .int .i64 0, .int .i64 0] 136)).heap[w1.heap.size]? = some (.cells #[.bool false, .bool false, .bool false, .bool false, .int .i64 0, .int .i64 0, .int .i64 0, .int .i64 0] 136 (0, 0)) := pblk_at rfl
  have z1 : (w1.alloc (.cells #[.bool false, .bool false, .bool false, .bool false, .int .i64 0, .int .i64 0, .int .i64 0, .int .i64 0] 136)).heap[b0]? = some (.cells A.toArray 138 (0, 0)) := (Below.heap_alloc _ _ _ l0).trans hB0
  have z2 : (w1.alloc (.cells #[.bool false, .bool false, .bool false, .bool false, .int .i64 0, .int .i64 0, .int .i64 0, .int .i64 0] 136)).heap[b2]? = some (.cells Q.toArray 97 (0, 0)) := (Below.heap_alloc _ _ _ l2).trans hB2
  have z3 : (w1.alloc (.cells #[.bool false, .bool false, .bool false, .bool false, .int .i64 0, .int .i64 0, .int .i64 0, .int .i64 0] 136)).heap[b3]? = some (.cells #[.int .i64 0, .int .i64 0, .int .i64 0, .int .i64 0, .int .i64 0, .int .i64 0, .int .i64 0, .int .i64 0, .int .i64 0, .int .i64 0, .int .i64 0, .int .i64 0, .int .i64 0, .int .i64 0, .int .i64 0, .int .i64 0, .bool false, .bool false, .bool false, .bool false, .int .i64 0, .int .i64 0, .int .i64 0, .int .i64 0] 138 (0, 0)) := (Below.heap_alloc _ _ _ l3).trans hB3
  have n0 : b0 ≠ w1.heap.size := by omega
  have n2 : b2 ≠ w1.heap.size := by omega
  have n3 : b3 ≠ w1.heap.size := by omega
  have HT1 : Hid ((w1.alloc (.cells #[.bool false, .bool false, .bool false, .bool false, .int .i64 0, .int .i64 0, .int .i64 0, .int .i64 0] 136)).there w1.heap.size 0 G.toArray.size) := hid (by
    change _ = some (Obj.cells ([.bool false, .bool false, .bool false, .bool false, .int .i64 0, .int .i64 0, .int .i64 0, .int .i64 0] : List Value).toArray 136 (0, 0)) at z0
    exact there_drop z0 (by simp [HG.out]))
  obtain ⟨W1, hW1⟩ : ∃ W, W = (w1.alloc (.cells #[.bool false, .bool false, .bool false, .bool false, .int .i64 0, .int .i64 0, .int .i64 0, .int .i64 0] 136)).setCells w1.heap.size 0 G := ⟨_, rfl⟩
  have y0 : W1.heap[b0]? = some (.cells A.toArray 138 (0, 0)) := by rw [hW1, hsc_ne _ _ _ n0]; exact z1
  have y2 : W1.heap[b2]? = some (.cells Q.toArray 97 (0, 0)) := by rw [hW1, hsc_ne _ _ _ n2]; exact z2
  have y3 : W1.heap[b3]? = some (.cells #[.int .i64 0, .int .i64 0, .int .i64 0, .int .i64 0, .int .i64 0, .int .i64 0, .int .i64 0, .int .i64 0, .int .i64 0, .int .i64 0, .int .i64 0, .int .i64 0, .int .i64 0, .int .i64 0, .int .i64 0, .int .i64 0, .bool false, .bool false, .bool false, .bool false, .int .i64 0, .int .i64 0, .int .i64 0, .int .i64 0] 138 (0, 0)) := by rw [hW1, hsc_ne _ _ _ n3]; exact z3
  have HRG : Hid (W1.rangeAt w1.heap.size 0 G) := hid (by
    rw [hW1]
    refine World.rangeAt_setCells_same _ _ _ _ ?_
    have := HT1.out
    simpa using this)
  have gW1 : w.grownBy W1 none := by rw [hW1]; exact HSS.out _ _ _ _ (by omega) (grown_alloc HG2.out _)
  obtain ⟨W2, hW2⟩ : ∃ W, W = W1.setCells b0 16 G := ⟨_, rfl⟩
  have x0 : W2.heap[b0]? = some (.cells (setL A 16 G).toArray 138 (0, 0)) := by rw [hW2]; exact blk_setL _ _ _ _ y0
  have x2 : W2.heap[b2]? = some (.cells Q.toArray 97 (0, 0)) := by rw [hW2, hsc_ne _ _ _ m0]; exact y2
  have x3 : W2.heap[b3]? = some (.cells #[.int .i64 0, .int .i64 0, .int .i64 0, .int .i64 0, .int .i64 0, .int .i64 0, .int .i64 0, .int .i64 0, .int .i64 0, .int .i64 0, .int .i64 0, .int .i64 0, .int .i64 0, .int .i64 0, .int .i64 0, .int .i64 0, .bool false, .bool false, .bool false, .bool false, .int .i64 0, .int .i64 0, .int .i64 0, .int .i64 0] 138 (0, 0)) := by rw [hW2, hsc_ne _ _ _ m1]; exact y3
  have gW2 : w.grownBy W2 none := by rw [hW2]; exact HSS.out _ _ _ _ (Nat.le_refl _) gW1
  obtain ⟨W3, hW3⟩ : ∃ W, W = W2.setCells b0 (4 + n * 4) Q := ⟨_, rfl⟩
  have v0 : W3.heap[b0]? = some (.cells (setL (setL A 16 G) (4 + n * 4) Q).toArray 138 (0, 0)) := by rw [hW3]; exact blk_setL _ _ _ _ x0
  have v2 : W3.heap[b2]? = some (.cells Q.toArray 97 (0, 0)) := by rw [hW3, hsc_ne _ _ _ m0]; exact x2
  have v3 : W3.heap[b3]? = some (.cells #[.int .i64 0, .int .i64 0, .int .i64 0, .int .i64 0, .int .i64 0, .int .i64 0, .int .i64 0, .int .i64 0, .int .i64 0, .int .i64 0, .int .i64 0, .int .i64 0, .int .i64 0, .int .i64 0, .int .i64 0, .int .i64 0, .bool false, .bool false, .bool false, .bool false, .int .i64 0, .int .i64 0, .int .i64 0, .int .i64 0] 138 (0, 0)) := by rw [hW3, hsc_ne _ _ _ m1]; exact x3
  have gW3 : w.grownBy W3 none := by rw [hW3]; exact HSS.out _ _ _ _ (Nat.le_refl _) gW2
  have e16 : ∀ i, i < 16 → (setL A 16 G)[i]? = A[i]? := fun i hi => setL_ne _ _ _ _ (.inl hi)
  have e4 : ∀ i, i < 4 → (setL (setL A 16 G) (4 + n * 4) Q)[i]? = A[i]? := fun i hi => (setL_ne _ _ _ _ (.inl (by omega))).trans (e16 i (by omega))
  have HT2 : Hid (W1.there b0 16 G.toArray.size) := hid (there_drop y0 (by simp [HA.out, HG.out]))
  have HT3 : Hid (W2.there b0 (4 + n * 4) Q.toArray.size) := hid (there_drop x0 (by rw [setL_len]; simp [HA.out, HQ.out]; omega))
  have HR2 : Hid (W2.rangeAt b2 0 Q) := hid (range_drop x2 (fun j v hv => by rw [Nat.zero_add]; exact hv))
  have k1 : W1.cell? ⟨b0, 3, none⟩ = some (.int .i64 n) := cell_list y0 HA3.out
  have k2 : W2.cell? ⟨b0, 3, none⟩ = some (.int .i64 n) := cell_list x0 ((e16 3 (by omega)).trans HA3.out)
  have k3 : W3.cell? ⟨b0, 3, none⟩ = some (.int .i64 n) := cell_list v0 ((e4 3 (by omega)).trans HA3.out)
  have k4 : W3.cell? ⟨b0, 2, none⟩ = some (.int .i64 lt) := cell_list v0 ((e4 2 (by omega)).trans HA2.out)
  have k5 : W3.cell? ⟨b2, 3, none⟩ = some (.int .i64 y) := cell_list v2 HQ3.out
  have k6 : W3.frozen? ⟨b0, 3, none⟩ = false := frozen_blk v0 _
  have k7 : W3.frozen? ⟨b0, 2, none⟩ = false := frozen_blk v0 _
  have hR0 : ((W3.setCell ⟨b0, 3, none⟩ (.int .i64 (n + 1))).setCell ⟨b0, 2, none⟩ (.int .i64 y)).heap[b0]? = some (.cells (((setL (setL A 16 G) (4 + n * 4) Q).set 3 (.int .i64 (n + 1))).set 2 (.int .i64 y)).toArray 138 (0, 0)) := blk_setCell_list (blk_setCell_list v0 _ _) _ _
  have hR3 : ((W3.setCell ⟨b0, 3, none⟩ (.int .i64 (n + 1))).setCell ⟨b0, 2, none⟩ (.int .i64 y)).heap[b3]? = some (.cells #[.int .i64 0, .int .i64 0, .int .i64 0, .int .i64 0, .int .i64 0, .int .i64 0, .int .i64 0, .int .i64 0, .int .i64 0, .int .i64 0, .int .i64 0, .int .i64 0, .int .i64 0, .int .i64 0, .int .i64 0, .int .i64 0, .bool false, .bool false, .bool false, .bool false, .int .i64 0, .int .i64 0, .int .i64 0, .int .i64 0] 138 (0, 0)) := (hs_ne m1).trans ((hs_ne m1).trans v3)
  have gW5 : w.grownBy ((W3.setCell ⟨b0, 3, none⟩ (.int .i64 (n + 1))).setCell ⟨b0, 2, none⟩ (.int .i64 y)) none := HS0.out _ _ _ (HS0.out _ _ _ gW3)
  have oR : ∀ v ∈ (((setL (setL A 16 G) (4 + n * 4) Q).set 3 (.int .i64 (n + 1))).set 2 (.int .i64 y)), v.oneCell' = true := by
    intro v hv
    have h4 := setL_one (p := (·.oneCell')) Q _ (4 + n * 4) (setL_one G A 16 HOA.out HOG.out) HOQ.out
    rcases List.mem_or_eq_of_mem_set hv with h1 | h1
    · rcases List.mem_or_eq_of_mem_set h1 with h2 | h2
      · exact h4 v h2
      · rw [h2]; rfl
    · rw [h1]; rfl
  have hRl : (((setL (setL A 16 G) (4 + n * 4) Q).set 3 (.int .i64 (n + 1))).set 2 (.int .i64 y)).length = 24 := by simp [setL_len, HA.out]
  rw [← HR.out] at hR0 oR hRl
  have HRR : Hid (((W3.setCell ⟨b0, 3, none⟩ (.int .i64 (n + 1))).setCell ⟨b0, 2, none⟩ (.int .i64 y)).rangeAt b0 0 R) := hid (range_drop hR0 (fun j v hv => by rw [Nat.zero_add]; exact hv))
  have HT9 : Hid (((W3.setCell ⟨b0, 3, none⟩ (.int .i64 (n + 1))).setCell ⟨b0, 2, none⟩ (.int .i64 y)).there b3 0 R.toArray.size) := hid (by
    change _ = some (Obj.cells ([.int .i64 0, .int .i64 0, .int .i64 0, .int .i64 0, .int .i64 0, .int .i64 0, .int .i64 0, .int .i64 0, .int .i64 0, .int .i64 0, .int .i64 0, .int .i64 0, .int .i64 0, .int .i64 0, .int .i64 0, .int .i64 0, .bool false, .bool false, .bool false, .bool false, .int .i64 0, .int .i64 0, .int .i64 0, .int .i64 0] : List Value).toArray 138 (0, 0)) at hR3
    exact there_drop hR3 (by simp [hRl]))
  have HIR : Hid ((Try.prog.info? 138).map (·.size) = some R.length) := hid (by rw [hRl]; exact info_inst)
  have HBL : Hid ((((W3.setCell ⟨b0, 3, none⟩ (.int .i64 (n + 1))).setCell ⟨b0, 2, none⟩ (.int .i64 y)).setCells b3 0 R).heap[b3]? = some (.cells R.toArray 138 (0, 0))) := hid (by
    have := blk_setCells R 0 ((W3.setCell ⟨b0, 3, none⟩ (.int .i64 (n + 1))).setCell ⟨b0, 2, none⟩ (.int .i64 y)) [] [] [.int .i64 0, .int .i64 0, .int .i64 0, .int .i64 0, .int .i64 0, .int .i64 0, .int .i64 0, .int .i64 0, .int .i64 0, .int .i64 0, .int .i64 0, .int .i64 0, .int .i64 0, .int .i64 0, .int .i64 0, .int .i64 0, .bool false, .bool false, .bool false, .bool false, .int .i64 0, .int .i64 0, .int .i64 0, .int .i64 0] rfl (by rw [hRl]; rfl) (by simpa using hR3)
    simpa using this)
  have HGR : Hid (w.grownBy (((W3.setCell ⟨b0, 3, none⟩ (.int .i64 (n + 1))).setCell ⟨b0, 2, none⟩ (.int .i64 y)).setCells b3 0 R) none) := hid (HSS.out _ _ _ _ s3 gW5)
  have HOR : Hid (R.toArray.all (·.oneCell') = true) := hid (all_oneCell_toArray oR)
  have HOGA : Hid (G.toArray.all (·.oneCell') = true) := hid (all_oneCell_toArray HOG.out)
  have HOQA : Hid (Q.toArray.all (·.oneCell') = true) := hid (all_oneCell_toArray HOQ.out)
  have HIGs : Hid ((Try.prog.info? 136).map (·.size) = some G.toArray.size) := hid (by simpa using HIG.out)
  have HIQs : Hid ((Try.prog.info? 97).map (·.size) = some Q.toArray.size) := hid (by simpa using HIQ.out)
  have HIRs : Hid ((Try.prog.info? 138).map (·.size) = some R.toArray.size) := hid (by simpa using HIR.out)
  have HW1 : Hid ((w1.alloc (.cells #[.bool false, .bool false, .bool false, .bool false, .int .i64 0, .int .i64 0, .int .i64 0, .int .i64 0] 136)).setCells w1.heap.size 0 G.toArray.toList = W1) := hid hW1.symm
  have HW2 : Hid (W1.setCells b0 16 G.toArray.toList = W2) := hid hW2.symm
  have HW3 : Hid (W2.setCells b0 (4 + n * 4) Q.toArray.toList = W3) := hid hW3.symm
  have hi0 : (0 : Int) ≤ (n : Int) := by omega
  have hi1 : (n : Int) < 3 := by omega
  have n0' := n0.symm
  have m0' := m0.symm
  clear hW1 hW2 hW3 z0 z1 z2 z3 y0 y2 y3 x0 x2 x3 v0 v2 v3 gW1 gW2 gW3 gW5 e16 e4 hR0 hR3 oR HR hB0 hB2 hB3 l0 l2 l3 HS0 HSS HG2 s3 s4 HA2 HA3 HQ3 HOA HOQ HOG
  go_wp2_with (first
    | (refine wpList_store_mid rfl 136 (.tmp 8) (.tmp 16) rfl w1.heap.size 0 G.toArray rfl rfl HT1.out HIGs.out HOGA.out ?_; rw [HW1.out])
    | (refine wpList_load_mid rfl 136 (.tmp 8) rfl w1.heap.size 0 rfl G _ HRG.out Try.underlying136 rfl HIG.out ?_)
    | (refine wpList_store_mid rfl 136 (.tmp 32) (.tmp 31) rfl b0 16 G.toArray rfl rfl HT2.out HIGs.out HOGA.out ?_; rw [HW2.out])
    | (refine wpList_load_mid rfl 97 (.tmp 5) rfl b2 0 rfl Q _ HR2.out Try.underlying97 rfl HIQ.out ?_)
    | (refine wpList_store_mid rfl 97 (.tmp 37) (.tmp 35) rfl b0 (4 + n * 4) Q.toArray rfl rfl HT3.out HIQs.out HOQA.out ?_; rw [HW3.out])
    | (refine wpList_load_mid rfl 138 (.tmp 3) rfl b0 0 rfl R _ HRR.out Try.underlying138 rfl HIR.out ?_)
    | (refine wpList_store_mid rfl 138 (.tmp 6) (.tmp 50) rfl b3 0 R.toArray rfl rfl HT9.out HIRs.out HOR.out ?_))

  refine bodyPost_ret (res_ct Try.results85 rfl HBL.out Try.underlying138 rfl HIRs.out rfl) rfl ⟨rfl, ?_⟩
  exact HGR.out

end Go.Proofs.Ythlhbjnkohinmaa
