/- The statement News: its loop over the script. -/
import Derived.Test.YthlhbjnkohinmaaGreatLaw1
namespace Go.Proofs.YthlhbjnkohinmaaGreat
open Go.RowKit

set_option maxRecDepth 20000 in
set_option maxHeartbeats 1000000 in
theorem step_news (B bw n : Nat) (k a b c : Int) (s : ByteArray) (w : World) (hI : Inv B bw n w) (hB : B ≤ bw) (hs : s.size ≤ maxLen) (hn : (n + 1) * 8 ≤ 140737488355328) (hk : k ≤ 1) :
    Calls Tryz.prog 10 #[.pointer (some ⟨bw, 0, none⟩), .agg #[.int .i64 k, .int .i64 a, .int .i64 b, .int .i64 c, .string s]] w (MPost B bw n w) := by
  have hlb : bw < w.heap.size := by obtain ⟨v, ps, h1, _⟩ := hI; exact lt_of_block h1
  have hz : bw ≠ w.heap.size := by omega
  by_cases hk1 : k = 1
  · subst hk1
    have HM := hid (fun o => made_any B bw n s c (w.alloc o) (hI.kept (World.grownBy_alloc w o none)) hB hs hn)
    have HB0 : Hid (∀ o, Below B w (w.alloc o)) := hid (fun o => (Below.refl B w).alloc (by omega) o)
    clear hI
    go_enter Tryz.func10, Tryz.ntmps10
    go_wp2_with fail
    go_at_call 12
    refine (HM.out _).mono ?_
    rintro e w1 ⟨rfl, hI1, hB1, hK1⟩
    go_wp2
    go_ret
    exact ⟨rfl, hI1, (HB0.out _).trans hB1, (Keep.grown (World.grownBy_alloc w _ none)).trans hK1⟩
  · obtain ⟨v, ps, h1, h2, h3⟩ := hI
    have c0 := cell_of_one h1
    have HI : Hid (Inv B bw n w) := hid ⟨v, ps, h1, h2, h3⟩
    obtain ⟨av, m, cv, rfl⟩ := own_slice h2
    have hk2 : (k == 1) = false := by simpa using hk1
    have hk3 : k < 1 := by omega
    clear h1 h2 h3 hk1 hk
    by_cases hm : m = 0
    · subst hm
      go_enter Tryz.func10, Tryz.ntmps10
      go_wp2
      go_ret
      exact ⟨rfl, ⟨n, by omega, Inv.kept HI.out (World.grownBy_alloc w _ none)⟩, (Below.refl B w).alloc (by omega) _, .grown (World.grownBy_alloc w _ none)⟩
    · have hm' : ((m : Int) == 0) = false := by simp; omega
      clear hm
      go_enter Tryz.func10, Tryz.ntmps10
      go_wp2
      go_ret
      exact ⟨rfl, ⟨n, by omega, Inv.kept HI.out (World.grownBy_alloc w _ none)⟩, (Below.refl B w).alloc (by omega) _, .grown (World.grownBy_alloc w _ none)⟩

/-- A step of a script lies in memory. -/
def StepAt (w : World) (sb o : Nat) (k a b c : Int) (s : ByteArray) : Prop :=
  w.cell? ⟨sb, o, none⟩ = some (.int .i64 k) ∧ w.cell? ⟨sb, o + 1, none⟩ = some (.int .i64 a) ∧ w.cell? ⟨sb, o + 2, none⟩ = some (.int .i64 b) ∧ w.cell? ⟨sb, o + 3, none⟩ = some (.int .i64 c) ∧ w.cell? ⟨sb, o + 4, none⟩ = some (.string s) ∧
  -9223372036854775808 ≤ a ∧ a ≤ 9223372036854775807 ∧ s.size ≤ maxLen

set_option maxRecDepth 20000 in
set_option maxHeartbeats 2000000 in
theorem upTo_news (w : World) (sb off len cap : Nat) (hsb : sb < w.heap.size) (hlen : len * 48 ≤ 140737488351232) (hscr : ∀ t, t < len → ∃ k a b c s, StepAt w sb (off + t * 5) k a b c s) :
    Calls Tryz.prog 9 #[.slice (some ⟨sb, off, none⟩) len cap, .int .i64 1, .bool false, .int .i64 1, .int .i64 1] w fun e w' => e = .returned (.int .i64 (-1)) ∧ Below w.heap.size w w' := by
  have HS := hid hscr
  clear hscr
  go_enter Tryz.func9, Tryz.ntmps9
  go_wp2_with fail
  go_loopw [12] (fun t wr => ∃ (k n : Nat), k ≤ len ∧ t = .int .i64 k ∧ n ≤ k ∧ Inv w.heap.size w.heap.size n wr ∧ Below w.heap.size w wr ∧ w.heap.size < wr.heap.size) (fun t _ => len - (intOf t).toNat)
  case atStart => exact ⟨0, 0, Nat.zero_le _, rfl, Nat.le_refl _, ⟨_, [], heap_alloc_new w _, World.ownsRow_nil _ _ _ _, fun u hu => by cases hu⟩, (Below.refl _ w).alloc (Nat.le_refl _) _, by simp⟩
  case round =>
    obtain ⟨k, n, hk, rfl, hn, hI, hBe, hsz⟩ := hrel
    have HI := hid hI
    have HBe := hid hBe
    clear hI hBe
    by_cases hlt : k < len
    · obtain ⟨kk, aa, bb, cc, s, c0, c1, c2, c3, c4, a1, a2, hs⟩ := HS.out k hlt
      have d0 := (HBe.out.cell (p := ⟨sb, off + k * 5, none⟩) hsb).trans c0
      have d1 := (HBe.out.cell (p := ⟨sb, off + k * 5 + 1, none⟩) hsb).trans c1
      have d2 := (HBe.out.cell (p := ⟨sb, off + k * 5 + 2, none⟩) hsb).trans c2
      have d3 := (HBe.out.cell (p := ⟨sb, off + k * 5 + 3, none⟩) hsb).trans c3
      have d4 := (HBe.out.cell (p := ⟨sb, off + k * 5 + 4, none⟩) hsb).trans c4
      clear c0 c1 c2 c3 c4
      have hsbz : sb ≠ wr.heap.size := by omega
      have HL := hid (fun o => late_any w.heap.size w.heap.size n kk aa bb cc s (wr.alloc o) (Inv.kept HI.out (World.grownBy_alloc wr o none)) a1 a2 (by omega))
      go_wp2_with fail
      go_at_call 11
      refine (HL.out _).mono ?_
      rintro e w1 ⟨rfl, hg1⟩
      have e0 := hg1.cell (a := ⟨wr.heap.size, 0, none⟩) (v := .int .i64 kk) (by simp [go_sem]) (by simp)
      have e1 := hg1.cell (a := ⟨wr.heap.size, 1, none⟩) (v := .int .i64 aa) (by simp [go_sem]) (by simp)
      have e2 := hg1.cell (a := ⟨wr.heap.size, 2, none⟩) (v := .int .i64 bb) (by simp [go_sem]) (by simp)
      have e3 := hg1.cell (a := ⟨wr.heap.size, 3, none⟩) (v := .int .i64 cc) (by simp [go_sem]) (by simp)
      have e4 := hg1.cell (a := ⟨wr.heap.size, 4, none⟩) (v := .string s) (by simp [go_sem]) (by simp)
      have hsz1 := hg1.size
      simp at hsz1
      have HI1 : Hid (Inv w.heap.size w.heap.size n w1) := hid (Inv.kept (Inv.kept HI.out (World.grownBy_alloc wr _ none)) hg1)
      have HBe1 : Hid (Below w.heap.size w w1) := hid ((HBe.out.alloc (by omega) _).grown hg1 (by simp; omega) (fun g hg => by cases hg))
      have HKB0 := hid ((hg1.block wr.heap.size (by simp) (by simp)).trans (heap_alloc_new wr _))
      clear d0 d1 d2 d3 d4 HL HI HBe hg1
      by_cases hk1 : 1 < kk
      · go_wp2
        go_roundw
        case rel => exact ⟨k + 1, n, by omega, by go_num, by omega, HI1.out, HBe1.out, by omega⟩
        case measure => simp [intOf]; omega
      · have HST := hid (step_news w.heap.size w.heap.size n kk aa bb cc s w1 HI1.out (Nat.le_refl _) hs (by omega) (by omega))
        have HKB : Hid (w1.heap[wr.heap.size]? = some (.cells #[.int .i64 kk, .int .i64 aa, .int .i64 bb, .int .i64 cc, .string s] 30 (0, 0))) := HKB0
        go_wp2_with fail
        go_at_call 10
        refine HST.out.mono ?_
        rintro e w2 ⟨rfl, ⟨n', hn', hI2⟩, hB2, hK2⟩
        have hk2 := hK2 _ _ _ HKB.out (by decide) (by omega)
        have x0 : w2.cell? ⟨wr.heap.size, 0, none⟩ = some (.int .i64 kk) := by simp [World.cell?, hk2]
        have HI2 := hid hI2
        have HBe2 := hid (HBe1.out.trans hB2)
        have hsz2 := hB2.size
        clear hk2 hI2 hB2 hK2 HKB HKB0 HST e0 e1 e2 e3 e4
        by_cases hkk : kk = 1
        · subst hkk
          go_wp2
          go_roundw
          case rel => exact ⟨k + 1, n', by omega, by go_num, by omega, HI2.out, HBe2.out, by omega⟩
          case measure => simp [intOf]; omega
        · have q1 : (kk == 1) = false := by simpa using hkk
          have q2 : kk < 1 := by omega
          go_wp2
          go_roundw
          case rel => exact ⟨k + 1, n', by omega, by go_num, by omega, HI2.out, HBe2.out, by omega⟩
          case measure => simp [intOf]; omega
    · go_wp2
      go_ret
      exact ⟨rfl, HBe.out⟩

end Go.Proofs.YthlhbjnkohinmaaGreat
