/- Variables that are not bound: what the program's check says of the rules that were read. -/
import Derived.Test.YthlhbjnkohinmaaOv
namespace Go.Proofs.Ythlhbjnkohinmaa
open Go.RowKit

/-- In block g lies which of the four variables are bound. -/
def Bd (w : World) (g : Nat) (bs : Nat → Bool) : Prop := w.heap[g]? = some (.cells #[.bool (bs 0), .bool (bs 1), .bool (bs 2), .bool (bs 3)] 196 (0, 0))
def addT (bs : Nat → Bool) (k v : Int) : Nat → Bool := fun n => bs n || (decide (k = 2) && decide ((n : Int) = v))
def lackT (bs : Nat → Bool) (k v : Int) : Bool := decide (k = 2) && !(bs v.toNat)

theorem Bd.c {w : World} {g : Nat} {bs : Nat → Bool} (h : Bd w g bs) : w.cell? ⟨g, 0, none⟩ = some (.bool (bs 0)) ∧ w.cell? ⟨g, 1, none⟩ = some (.bool (bs 1)) ∧ w.cell? ⟨g, 2, none⟩ = some (.bool (bs 2)) ∧ w.cell? ⟨g, 3, none⟩ = some (.bool (bs 3)) := by
  unfold Bd at h; simp [World.cell?, h]
theorem Bd.f {w : World} {g : Nat} {bs : Nat → Bool} (h : Bd w g bs) : w.frozen? ⟨g, 0, none⟩ = false ∧ w.frozen? ⟨g, 1, none⟩ = false ∧ w.frozen? ⟨g, 2, none⟩ = false ∧ w.frozen? ⟨g, 3, none⟩ = false := by
  unfold Bd at h; simp [World.frozen?, h]
theorem Bd.lt {w : World} {g : Nat} {bs : Nat → Bool} (h : Bd w g bs) : g < w.heap.size := lt_of_block h
theorem Bd.alloc {w : World} {g : Nat} {bs : Nat → Bool} (h : Bd w g bs) (o : Obj) : Bd (w.alloc o) g bs := (Below.heap_alloc w o g h.lt).trans h
theorem Bd.kept {w w' : World} {g : Nat} {bs : Nat → Bool} {row : Option Nat} (h : Bd w g bs) (hg : w.grownBy w' row) (hne : some g ≠ row) : Bd w' g bs := (hg.block g h.lt hne).trans h
theorem Bd.drew {w : World} {g : Nat} {bs : Nat → Bool} (h : Bd w g bs) : Bd w.drew g bs := h
theorem Bd.set {w : World} {g : Nat} {bs : Nat → Bool} (h : Bd w g bs) (i : Nat) (bs' : Nat → Bool) (he : (#[.bool (bs 0), .bool (bs 1), .bool (bs 2), .bool (bs 3)] : Array Value).setIfInBounds i (.bool true) = #[.bool (bs' 0), .bool (bs' 1), .bool (bs' 2), .bool (bs' 3)]) : Bd (w.setCell ⟨g, i, none⟩ (.bool true)) g bs' := by
  unfold Bd at h ⊢
  rw [Go.heap_setCell_same w g i _ _ _ h, he]

set_option maxHeartbeats 1000000 in
theorem lacksOne_0 (bs : Nat → Bool) (g : Nat) (w : World) (hb : Bd w g bs) :
    Calls Try.prog 100 #[.pointer (some ⟨g, 0, none⟩), .agg #[.int .i64 2, .int .i64 0]] w fun e w' => e = .returned (.bool (!(bs 0))) ∧ w.grownBy w' none := by
  obtain ⟨c0, c1, c2, c3⟩ := hb.c
  have hl := hb.lt
  have hz : g ≠ w.heap.size := by omega
  go_enter Try.func100, Try.ntmps100
  go_wp2
  go_quiet ((fail))
  go_wp2
  go_ret
  exact ⟨rfl, grown_drewN (grown_alloc (grown_refl _ _) _) _⟩
set_option maxHeartbeats 1000000 in
theorem add_0 (bs : Nat → Bool) (g : Nat) (w : World) (hb : Bd w g bs) :
    Calls Try.prog 93 #[.pointer (some ⟨g, 0, none⟩), .agg #[.int .i64 2, .int .i64 0]] w fun e w' => e = .returned (.tuple #[]) ∧ Bd w' g (addT bs 2 0) ∧ w.grownBy w' (some g) := by
  obtain ⟨c0, c1, c2, c3⟩ := hb.c
  obtain ⟨f0, f1, f2, f3⟩ := hb.f
  have hl := hb.lt
  have hz : g ≠ w.heap.size := by omega
  have HB := hid (hb.set 0 (addT bs 2 0) (by simp [addT]))
  go_enter Try.func93, Try.ntmps93
  go_wp2
  go_region
  all_goals (try go_wp2)
  all_goals
    go_end0
    exact ⟨rfl, (HB.out.alloc _).drew, grown_drewN (grown_alloc (grown_set (grown_refl _ _) (.inl rfl) _) _) 1⟩
set_option maxHeartbeats 1000000 in
theorem lacksOne_1 (bs : Nat → Bool) (g : Nat) (w : World) (hb : Bd w g bs) :
    Calls Try.prog 100 #[.pointer (some ⟨g, 0, none⟩), .agg #[.int .i64 2, .int .i64 1]] w fun e w' => e = .returned (.bool (!(bs 1))) ∧ w.grownBy w' none := by
  obtain ⟨c0, c1, c2, c3⟩ := hb.c
  have hl := hb.lt
  have hz : g ≠ w.heap.size := by omega
  go_enter Try.func100, Try.ntmps100
  go_wp2
  go_quiet ((fail))
  go_wp2
  go_ret
  exact ⟨rfl, grown_drewN (grown_alloc (grown_refl _ _) _) _⟩
set_option maxHeartbeats 1000000 in
theorem add_1 (bs : Nat → Bool) (g : Nat) (w : World) (hb : Bd w g bs) :
    Calls Try.prog 93 #[.pointer (some ⟨g, 0, none⟩), .agg #[.int .i64 2, .int .i64 1]] w fun e w' => e = .returned (.tuple #[]) ∧ Bd w' g (addT bs 2 1) ∧ w.grownBy w' (some g) := by
  obtain ⟨c0, c1, c2, c3⟩ := hb.c
  obtain ⟨f0, f1, f2, f3⟩ := hb.f
  have hl := hb.lt
  have hz : g ≠ w.heap.size := by omega
  have HB := hid (hb.set 1 (addT bs 2 1) (by simp [addT]))
  go_enter Try.func93, Try.ntmps93
  go_wp2
  go_region
  all_goals (try go_wp2)
  all_goals
    go_end0
    exact ⟨rfl, (HB.out.alloc _).drew, grown_drewN (grown_alloc (grown_set (grown_refl _ _) (.inl rfl) _) _) 1⟩
set_option maxHeartbeats 1000000 in
theorem lacksOne_2 (bs : Nat → Bool) (g : Nat) (w : World) (hb : Bd w g bs) :
    Calls Try.prog 100 #[.pointer (some ⟨g, 0, none⟩), .agg #[.int .i64 2, .int .i64 2]] w fun e w' => e = .returned (.bool (!(bs 2))) ∧ w.grownBy w' none := by
  obtain ⟨c0, c1, c2, c3⟩ := hb.c
  have hl := hb.lt
  have hz : g ≠ w.heap.size := by omega
  go_enter Try.func100, Try.ntmps100
  go_wp2
  go_quiet ((fail))
  go_wp2
  go_ret
  exact ⟨rfl, grown_drewN (grown_alloc (grown_refl _ _) _) _⟩
set_option maxHeartbeats 1000000 in
theorem add_2 (bs : Nat → Bool) (g : Nat) (w : World) (hb : Bd w g bs) :
    Calls Try.prog 93 #[.pointer (some ⟨g, 0, none⟩), .agg #[.int .i64 2, .int .i64 2]] w fun e w' => e = .returned (.tuple #[]) ∧ Bd w' g (addT bs 2 2) ∧ w.grownBy w' (some g) := by
  obtain ⟨c0, c1, c2, c3⟩ := hb.c
  obtain ⟨f0, f1, f2, f3⟩ := hb.f
  have hl := hb.lt
  have hz : g ≠ w.heap.size := by omega
  have HB := hid (hb.set 2 (addT bs 2 2) (by simp [addT]))
  go_enter Try.func93, Try.ntmps93
  go_wp2
  go_region
  all_goals (try go_wp2)
  all_goals
    go_end0
    exact ⟨rfl, (HB.out.alloc _).drew, grown_drewN (grown_alloc (grown_set (grown_refl _ _) (.inl rfl) _) _) 1⟩
set_option maxHeartbeats 1000000 in
theorem lacksOne_3 (bs : Nat → Bool) (g : Nat) (w : World) (hb : Bd w g bs) :
    Calls Try.prog 100 #[.pointer (some ⟨g, 0, none⟩), .agg #[.int .i64 2, .int .i64 3]] w fun e w' => e = .returned (.bool (!(bs 3))) ∧ w.grownBy w' none := by
  obtain ⟨c0, c1, c2, c3⟩ := hb.c
  have hl := hb.lt
  have hz : g ≠ w.heap.size := by omega
  go_enter Try.func100, Try.ntmps100
  go_wp2
  go_quiet ((fail))
  go_wp2
  go_ret
  exact ⟨rfl, grown_drewN (grown_alloc (grown_refl _ _) _) _⟩
set_option maxHeartbeats 1000000 in
theorem add_3 (bs : Nat → Bool) (g : Nat) (w : World) (hb : Bd w g bs) :
    Calls Try.prog 93 #[.pointer (some ⟨g, 0, none⟩), .agg #[.int .i64 2, .int .i64 3]] w fun e w' => e = .returned (.tuple #[]) ∧ Bd w' g (addT bs 2 3) ∧ w.grownBy w' (some g) := by
  obtain ⟨c0, c1, c2, c3⟩ := hb.c
  obtain ⟨f0, f1, f2, f3⟩ := hb.f
  have hl := hb.lt
  have hz : g ≠ w.heap.size := by omega
  have HB := hid (hb.set 3 (addT bs 2 3) (by simp [addT]))
  go_enter Try.func93, Try.ntmps93
  go_wp2
  go_region
  all_goals (try go_wp2)
  all_goals
    go_end0
    exact ⟨rfl, (HB.out.alloc _).drew, grown_drewN (grown_alloc (grown_set (grown_refl _ _) (.inl rfl) _) _) 1⟩

set_option maxHeartbeats 1000000 in
theorem lacksOne_any (bs : Nat → Bool) (k v : Int) (g : Nat) (w : World) (hb : Bd w g bs) (hv : k = 2 → 0 ≤ v ∧ v < 4) :
    Calls Try.prog 100 #[.pointer (some ⟨g, 0, none⟩), .agg #[.int .i64 k, .int .i64 v]] w fun e w' => e = .returned (.bool (lackT bs k v)) ∧ w.grownBy w' none := by
  by_cases hk : k = 2
  · obtain ⟨h1, h2⟩ := hv hk
    subst hk
    rcases (show v = 0 ∨ v = 1 ∨ v = 2 ∨ v = 3 by omega) with rfl | rfl | rfl | rfl
    · exact lacksOne_0 bs g w hb
    · exact lacksOne_1 bs g w hb
    · exact lacksOne_2 bs g w hb
    · exact lacksOne_3 bs g w hb
  · have hl2 : lackT bs k v = false := by simp [lackT, hk]
    have hk' : (k != 2) = true := by simpa using hk
    rw [hl2]
    clear hv hk
    go_enter Try.func100, Try.ntmps100
    go_wp2
    go_ret
    exact ⟨rfl, grown_alloc (grown_refl _ _) _⟩

theorem addT_none (bs : Nat → Bool) (k v : Int) (h : ¬ k = 2) : addT bs k v = bs := by funext n; simp [addT, h]

set_option maxHeartbeats 1000000 in
theorem add_any (bs : Nat → Bool) (k v : Int) (g : Nat) (w : World) (hb : Bd w g bs) (hv : k = 2 → 0 ≤ v ∧ v < 4) :
    Calls Try.prog 93 #[.pointer (some ⟨g, 0, none⟩), .agg #[.int .i64 k, .int .i64 v]] w fun e w' => e = .returned (.tuple #[]) ∧ Bd w' g (addT bs k v) ∧ w.grownBy w' (some g) := by
  by_cases hk : k = 2
  · obtain ⟨h1, h2⟩ := hv hk
    subst hk
    rcases (show v = 0 ∨ v = 1 ∨ v = 2 ∨ v = 3 by omega) with rfl | rfl | rfl | rfl
    · exact add_0 bs g w hb
    · exact add_1 bs g w hb
    · exact add_2 bs g w hb
    · exact add_3 bs g w hb
  · rw [addT_none bs k v hk]
    have hk' : (k == 2) = false := by simpa using hk
    clear hv hk
    go_enter Try.func93, Try.ntmps93
    go_wp2
    go_end0
    exact ⟨rfl, hb.alloc _, grown_alloc (grown_refl _ _) _⟩

set_option maxHeartbeats 1000000 in
theorem lacks_any (bs : Nat → Bool) (k v l u : Int) (g : Nat) (w : World) (hb : Bd w g bs) (hv : k = 2 → 0 ≤ v ∧ v < 4) (hu : l = 2 → 0 ≤ u ∧ u < 4) :
    Calls Try.prog 94 #[.pointer (some ⟨g, 0, none⟩), .agg #[.int .i64 k, .int .i64 v], .agg #[.int .i64 l, .int .i64 u]] w fun e w' => e = .returned (.bool (lackT bs k v || lackT bs l u)) ∧ w.grownBy w' none := by
  have hl := hb.lt
  have H1 := hid (fun W hW => lacksOne_any bs k v g W hW hv)
  have H2 := hid (fun W hW => lacksOne_any bs l u g W hW hu)
  clear hv hu
  by_cases h : lackT bs k v = true
  · have e : (lackT bs k v || lackT bs l u) = true := by simp [h]
    rw [e]
    rw [h] at H1
    go_enter Try.func94, Try.ntmps94
    go_wp2_with fail
    go_at_call 100
    refine (H1.out _ ((hb.alloc _).alloc _)).mono ?_
    rintro e w1 ⟨rfl, hg1⟩
    go_wp2
    go_ret
    exact ⟨rfl, grown_trans (grown_alloc (grown_alloc (grown_refl _ _) _) _) hg1⟩
  · have h' : lackT bs k v = false := by simpa using h
    have e : (lackT bs k v || lackT bs l u) = lackT bs l u := by simp [h']
    rw [e]
    rw [h'] at H1
    generalize lackT bs l u = q at *
    go_enter Try.func94, Try.ntmps94
    go_wp2_with fail
    go_at_call 100
    refine (H1.out _ ((hb.alloc _).alloc _)).mono ?_
    rintro e w1 ⟨rfl, hg1⟩
    have hb1 := ((hb.alloc _).alloc _).kept hg1 (by simp)
    have k0 := hg1.cell (a := ⟨w.heap.size + 1, 0, none⟩) (v := .int .i64 l) (by simp [go_sem]) (by simp)
    have k1 := hg1.cell (a := ⟨w.heap.size + 1, 1, none⟩) (v := .int .i64 u) (by simp [go_sem]) (by simp)
    go_wp2_with fail
    go_at_call 100
    refine (H2.out _ hb1).mono ?_
    rintro e w2 ⟨rfl, hg2⟩
    go_wp2
    go_ret
    exact ⟨rfl, grown_trans (grown_trans (grown_alloc (grown_alloc (grown_refl _ _) _) _) hg1) hg2⟩

end Go.Proofs.Ythlhbjnkohinmaa
