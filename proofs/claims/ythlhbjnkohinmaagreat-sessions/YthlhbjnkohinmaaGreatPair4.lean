/- A pair's View; all that a pair's sessions do. -/
import Derived.Test.YthlhbjnkohinmaaGreatPair3
namespace Go.Proofs.YthlhbjnkohinmaaGreat
open Go.RowKit

set_option maxRecDepth 20000 in
set_option maxHeartbeats 2000000 in
theorem pair_view (g x y : Nat) (X : PEng) (E : Eng) (f1 f2 : List Nat) (i : Nat) (a b c : Int) (s : ByteArray) (w : World) (h : Start g x y X E f1 f2 i w) :
    Calls Tryz.prog 14 #[.pointer (some ⟨g, 0, none⟩), stepV 5 a b c s] w fun e w' => e = .returned (.bool true) ∧ PairTo g i (g :: (f1 ++ f2)) w w' := by
  obtain ⟨hg1, hg2, hd12, hn1, hn2, hl1, hl2⟩ := h.apart
  have hsm := h.small
  have hwf := h.good.wf (by omega)
  obtain ⟨L, hs⟩ := h.good.1
  have hview := hs.view b
  have hhl := h.good.2.hist
  have HPC : Hid (∀ W, Fr [] w W → Calls Tryz.prog 25 #[.pointer (some ⟨x, 0, none⟩), .int .i64 b] W fun e w' => e = .returned (.tuple #[.string (pviewF X b).1, .int .i64 (pviewF X b).2]) ∧ Fr [] W w') := hid (by
    intro W hW
    obtain ⟨kv, hk⟩ := (h.pair.grown hW).prog
    refine (pview_any x X kv b W hk.1 hk.rows (fun c _ => by have := hhl c; simp at this; omega) (fun k hf => h.good.digs (by omega) hf)).mono ?_
    rintro e w' ⟨rfl, hg⟩
    exact ⟨rfl, fr_none hg⟩)
  have HDC : Hid (∀ W, Fr [] w W → Calls Tryz.prog 26 #[.pointer (some ⟨y, 0, none⟩), .int .i64 b] W fun e w' => e = .returned (.tuple #[.string (pviewF X b).1, .int .i64 (pviewF X b).2]) ∧ Fr [] W w') := hid (by
    intro W hW
    refine (rview_any (QR X.src) y E f2 b W (h.pair.grown hW).doc hwf).mono ?_
    rintro e w' ⟨rfl, hg⟩
    refine ⟨?_, fr_none hg⟩
    rw [hview]
    cases findS E.opn b <;> rfl)
  have HFIN : Hid (∀ W, Fr [] w W → PairTo g i (g :: (f1 ++ f2)) w W) := hid (by
    intro W hW
    exact ⟨(X, E), ⟨_, ⟨g, x, y, f1, f2, rfl, h.pair.grown hW, rfl⟩, h.nodup, fun _ hx => .inl hx, hW.mono (fun k hk => by cases hk)⟩, h.good.mono (Nat.le_succ i)⟩)
  have c0 : w.cell? ⟨g, 0, none⟩ = some (.pointer (some ⟨x, 0, none⟩)) := by rw [cell_of_row _ _ _ _ _ _ h.pair.block]; rfl
  have c1 : w.cell? ⟨g, 1, none⟩ = some (.pointer (some ⟨y, 0, none⟩)) := by rw [cell_of_row _ _ _ _ _ _ h.pair.block]; rfl
  have hgl := lt_of_block h.pair.block
  have hgz : g ≠ w.heap.size := by omega
  obtain ⟨r1, hr1⟩ : ∃ r1, r1 = (pviewF X b).1 := ⟨_, rfl⟩
  obtain ⟨r2, hr2⟩ : ∃ r2, r2 = (pviewF X b).2 := ⟨_, rfl⟩
  rw [← hr1, ← hr2] at HPC HDC
  have q1 : (r1.toList == r1.toList) = true := by simp
  have q2 : (r2 == r2) = true := by simp
  clear h hs hview hhl hwf hr1 hr2 hd12 hl1 hl2
  go_enter Tryz.func14, Tryz.ntmps14
  go_wp2_with fail
  go_region_held3 (fun W => W.cell? ⟨g, 0, none⟩ = some (.pointer (some ⟨x, 0, none⟩)) ∧ W.cell? ⟨w.heap.size, 2, none⟩ = some (.int .i64 b)) (first | go_keep | (exact ⟨k0, k2⟩)) (first
      | (go_at_call 25
         refine (HPC.out _ (fr_drew (fr_alloc w _))).mono ?_
         rintro e w1 ⟨rfl, hfr⟩
         have HT := hid ((fr_drew (fr_alloc w (stepC 5 a b c s))).trans hfr)
         have k0 := keepc hfr (keep0 (fr_drew (fr_alloc w _)) c0) (by simp)
         have k1 := keepc hfr (keep0 (fr_drew (fr_alloc w _)) c1) (by simp)
         have k2 := keepc hfr (keep0 (fr_drew (Fr.refl _ _)) (cell_new (w := w) (cs := #[.int .i64 5, .int .i64 a, .int .i64 b, .int .i64 c, .string s]) (t := 30) (j := 2) rfl)) (by simp)
         clear hfr))
  go_wp2_with fail
  go_region_held3 (fun W => W.cell? ⟨g, 1, none⟩ = some (.pointer (some ⟨y, 0, none⟩)) ∧ W.cell? ⟨w.heap.size, 2, none⟩ = some (.int .i64 b)) (first | go_keep | (exact ⟨m1, m2⟩)) (first
      | (go_at_call 26
         refine (HDC.out _ (fr_drew HT.out)).mono ?_
         rintro e w2 ⟨rfl, hfr⟩
         have HT2 := hid ((fr_drew HT.out).trans hfr)
         have m1 := keepc hfr (keep0 (fr_drew (Fr.refl _ _)) k1) (by simp)
         have m2 := keepc hfr (keep0 (fr_drew (Fr.refl _ _)) k2) (by simp)
         clear hfr))
  go_wp2_with (go_at_call 18; refine (num_any _ _).mono ?_; rintro e w' ⟨rfl, rfl⟩)
  go_ret
  exact ⟨rfl, HFIN.out _ HT2.out⟩

/-- All that a pair's sessions do. -/
theorem pair_sessions (g x y : Nat) (X : PEng) (E : Eng) (f1 f2 : List Nat) (i : Nat) (k a b c : Int) (s : ByteArray) (w : World) (h : Start g x y X E f1 f2 i w) (hs63 : s.size < 9223372036854775808) (hk : 2 ≤ k) (hk2 : k ≤ 6) :
    Calls Tryz.prog 14 #[.pointer (some ⟨g, 0, none⟩), stepV k a b c s] w fun e w' => e = .returned (.bool true) ∧ PairTo g i (g :: (f1 ++ f2)) w w' := by
  have e : k = 2 ∨ k = 3 ∨ k = 4 ∨ k = 5 ∨ k = 6 := by omega
  rcases e with rfl | rfl | rfl | rfl | rfl
  · exact pair_open g x y X E f1 f2 i a b c s w h
  · exact pair_put g x y X E f1 f2 i a b c s w h hs63
  · exact pair_clear g x y X E f1 f2 i a b c s w h hs63
  · exact pair_view g x y X E f1 f2 i a b c s w h
  · exact pair_abort g x y X E f1 f2 i a b c s w h

end Go.Proofs.YthlhbjnkohinmaaGreat
