/- A pair's Put, Clear, Abort. (Written by program: wip/tools/mk_pair3.py.) -/
import Derived.Test.YthlhbjnkohinmaaGreatPairX
namespace Go.Proofs.YthlhbjnkohinmaaGreat
open Go.RowKit

theorem Start.docD {g x y : Nat} {X X' : PEng} {E : Eng} {f1 f2 : List Nat} {i : Nat} {w w1 w1' : World} (h : Start g x y X E f1 f2 i w) (h1 : ATo (PEngA x X') f1 w w1) (hf : Fr [] w1 w1') : EngA (QR X.src) y E w1' f2 := EngA.framed (QR.framed _) _ _ (h.doc h1) hf (by simp)

set_option maxRecDepth 20000 in
set_option maxHeartbeats 2000000 in
theorem pair_put (g x y : Nat) (X : PEng) (E : Eng) (f1 f2 : List Nat) (i : Nat) (a b c : Int) (s : ByteArray) (w : World) (h : Start g x y X E f1 f2 i w) (hs63 : s.size < 9223372036854775808) :
    Calls Tryz.prog 14 #[.pointer (some ⟨g, 0, none⟩), stepV 3 a b c s] w fun e w' => e = .returned (.bool true) ∧ PairTo g i (g :: (f1 ++ f2)) w w' := by
  obtain ⟨hg1, hg2, hd12, hn1, hn2, hl1, hl2⟩ := h.apart
  obtain ⟨good', heq, hh⟩ := good_put h.good b s
  have hsm := h.small
  have hwf := h.good.wf (by omega)
  have hwl : ∀ S ∈ E.opn, (S.wr.length + 1) * 24 ≤ 140737488355328 := fun S hS => by have := h.good.2.wrLen S hS; omega
  have HPC : Hid (∀ W, Fr [] w W → Calls Tryz.prog 21 #[.pointer (some ⟨x, 0, none⟩), .int .i64 b, .string s] W fun e w' => e = .returned (.int .i64 (rputF E b s).1) ∧ ATo (PEngA x (pputF X b s).2) f1 W w') := hid (by
    intro W hW
    obtain ⟨kv, hk⟩ := (h.pair.grown hW).prog
    refine (pput_any x X kv b s W hk.1 hs63 (fun k hf => h.good.more h.small hf)).mono ?_
    rintro e w' ⟨rfl, hp⟩
    exact ⟨by rw [heq], hp.to hk hn1 hh⟩)
  have HDC : Hid (∀ W W1 W1', Fr [] w W → ATo (PEngA x (pputF X b s).2) f1 W W1 → Fr [] W1 W1' → Calls Tryz.prog 22 #[.pointer (some ⟨y, 0, none⟩), .int .i64 b, .string s] W1' fun e w' => (e = .returned (.int .i64 (rputF E b s).1) ∧ EngTo (QR X.src) y (rputF E b s).2 f2 W1 w') ∧ Fr f2 W1' w') := hid (by
    intro W W1 W1' hW h1 hf
    refine (rput_any (QR.framed _) (QR.within _) b s ((h.grown hW).docD h1 hf) hn2 hwf.opnLen hs63 hwl).mono ?_
    rintro e w' ⟨rfl, ht⟩
    exact ⟨⟨rfl, ht.before hf⟩, by obtain ⟨_, _, _, _, r⟩ := ht; exact r⟩)
  have HFIN : Hid (∀ W W1 W2, Fr [] w W → ATo (PEngA x (pputF X b s).2) f1 W W1 → EngTo (QR X.src) y (rputF E b s).2 f2 W1 W2 → PairTo g i (g :: (f1 ++ f2)) w W2) := hid (by
    intro W W1 W2 hW h1 h2
    exact ⟨_, pair_close h.pair h.nodup (h1.before hW) h2 (pput_src X b s), good'⟩)
  have c0 : w.cell? ⟨g, 0, none⟩ = some (.pointer (some ⟨x, 0, none⟩)) := by rw [cell_of_row _ _ _ _ _ _ h.pair.block]; rfl
  have c1 : w.cell? ⟨g, 1, none⟩ = some (.pointer (some ⟨y, 0, none⟩)) := by rw [cell_of_row _ _ _ _ _ _ h.pair.block]; rfl
  have hgl := lt_of_block h.pair.block
  have hgz : g ≠ w.heap.size := by omega
  have hz1 : w.heap.size ∉ f1 := fun e => by have := hl1 _ e; omega
  have hz2 : w.heap.size ∉ f2 := fun e => by have := hl2 _ e; omega
  obtain ⟨r1, hr1⟩ : ∃ r1, r1 = (rputF E b s).1 := ⟨_, rfl⟩
  rw [← hr1] at HPC HDC
  have q1 : (r1 == r1) = true := by simp
  clear h good' heq hh hwf hwl hr1 hd12 hl1 hl2
  go_enter Tryz.func14, Tryz.ntmps14
  go_wp2_with fail
  go_region_held3 (fun W => W.cell? ⟨g, 0, none⟩ = some (.pointer (some ⟨x, 0, none⟩)) ∧ W.cell? ⟨w.heap.size, 2, none⟩ = some (.int .i64 b) ∧ W.cell? ⟨w.heap.size, 4, none⟩ = some (.string s)) (first | go_keep | (exact ⟨k0, k2, k4⟩)) (first
      | (go_at_call 21
         refine (HPC.out _ (fr_drew (fr_alloc w _))).mono ?_
         rintro e w1 ⟨rfl, ht⟩
         have HT := hid ht
         obtain ⟨_, _, _, _, hfr⟩ := ht
         have k0 := keepc hfr (keep0 (fr_drew (fr_alloc w _)) c0) hg1
         have k1 := keepc hfr (keep0 (fr_drew (fr_alloc w _)) c1) hg1
         have k2 := keepc hfr (keep0 (fr_drew (Fr.refl _ _)) (cell_new (w := w) (cs := #[.int .i64 3, .int .i64 a, .int .i64 b, .int .i64 c, .string s]) (t := 30) (j := 2) rfl)) hz1
         have k4 := keepc hfr (keep0 (fr_drew (Fr.refl _ _)) (cell_new (w := w) (cs := #[.int .i64 3, .int .i64 a, .int .i64 b, .int .i64 c, .string s]) (t := 30) (j := 4) rfl)) hz1
         clear hfr))
  go_wp2_with fail
  go_region_held3 (fun W => W.cell? ⟨g, 1, none⟩ = some (.pointer (some ⟨y, 0, none⟩)) ∧ W.cell? ⟨w.heap.size, 2, none⟩ = some (.int .i64 b) ∧ W.cell? ⟨w.heap.size, 4, none⟩ = some (.string s)) (first | go_keep | (exact ⟨m1, m2, m4⟩)) (first
      | (go_at_call 22
         refine (HDC.out _ _ _ (fr_drew (fr_alloc w _)) HT.out (fr_drew (Fr.refl _ _))).mono ?_
         rintro e w2 ⟨⟨rfl, ht2⟩, hfr⟩
         have HT2 := hid ht2
         have m1 := keepc hfr (keep0 (fr_drew (Fr.refl _ _)) k1) hg2
         have m2 := keepc hfr (keep0 (fr_drew (Fr.refl _ _)) k2) hz2
         have m4 := keepc hfr (keep0 (fr_drew (Fr.refl _ _)) k4) hz2
         clear hfr ht2))
  go_wp2_with (go_at_call 18; refine (num_any _ _).mono ?_; rintro e w' ⟨rfl, rfl⟩)
  go_ret
  exact ⟨rfl, HFIN.out _ _ _ (fr_drew (fr_alloc w _)) HT.out HT2.out⟩

set_option maxRecDepth 20000 in
set_option maxHeartbeats 2000000 in
theorem pair_clear (g x y : Nat) (X : PEng) (E : Eng) (f1 f2 : List Nat) (i : Nat) (a b c : Int) (s : ByteArray) (w : World) (h : Start g x y X E f1 f2 i w) (hs63 : s.size < 9223372036854775808) :
    Calls Tryz.prog 14 #[.pointer (some ⟨g, 0, none⟩), stepV 4 a b c s] w fun e w' => e = .returned (.bool true) ∧ PairTo g i (g :: (f1 ++ f2)) w w' := by
  obtain ⟨hg1, hg2, hd12, hn1, hn2, hl1, hl2⟩ := h.apart
  obtain ⟨good', heq, hh⟩ := good_clear h.good b s
  have hsm := h.small
  have hwf := h.good.wf (by omega)
  have hwl : ∀ S ∈ E.opn, (S.wr.length + 1) * 24 ≤ 140737488355328 := fun S hS => by have := h.good.2.wrLen S hS; omega
  have HPC : Hid (∀ W, Fr [] w W → Calls Tryz.prog 23 #[.pointer (some ⟨x, 0, none⟩), .int .i64 b, .string s] W fun e w' => e = .returned (.int .i64 (rclearF E b s).1) ∧ ATo (PEngA x (pclearF X b s).2) f1 W w') := hid (by
    intro W hW
    obtain ⟨kv, hk⟩ := (h.pair.grown hW).prog
    refine (pclear_any x X kv b s W hk.1 hs63 (fun k hf => h.good.more h.small hf)).mono ?_
    rintro e w' ⟨rfl, hp⟩
    exact ⟨by rw [heq], hp.to hk hn1 hh⟩)
  have HDC : Hid (∀ W W1 W1', Fr [] w W → ATo (PEngA x (pclearF X b s).2) f1 W W1 → Fr [] W1 W1' → Calls Tryz.prog 24 #[.pointer (some ⟨y, 0, none⟩), .int .i64 b, .string s] W1' fun e w' => (e = .returned (.int .i64 (rclearF E b s).1) ∧ EngTo (QR X.src) y (rclearF E b s).2 f2 W1 w') ∧ Fr f2 W1' w') := hid (by
    intro W W1 W1' hW h1 hf
    refine (rclear_any (QR.framed _) (QR.within _) b s ((h.grown hW).docD h1 hf) hn2 hwf.opnLen hs63 hwl).mono ?_
    rintro e w' ⟨rfl, ht⟩
    exact ⟨⟨rfl, ht.before hf⟩, by obtain ⟨_, _, _, _, r⟩ := ht; exact r⟩)
  have HFIN : Hid (∀ W W1 W2, Fr [] w W → ATo (PEngA x (pclearF X b s).2) f1 W W1 → EngTo (QR X.src) y (rclearF E b s).2 f2 W1 W2 → PairTo g i (g :: (f1 ++ f2)) w W2) := hid (by
    intro W W1 W2 hW h1 h2
    exact ⟨_, pair_close h.pair h.nodup (h1.before hW) h2 (pclear_src X b s), good'⟩)
  have c0 : w.cell? ⟨g, 0, none⟩ = some (.pointer (some ⟨x, 0, none⟩)) := by rw [cell_of_row _ _ _ _ _ _ h.pair.block]; rfl
  have c1 : w.cell? ⟨g, 1, none⟩ = some (.pointer (some ⟨y, 0, none⟩)) := by rw [cell_of_row _ _ _ _ _ _ h.pair.block]; rfl
  have hgl := lt_of_block h.pair.block
  have hgz : g ≠ w.heap.size := by omega
  have hz1 : w.heap.size ∉ f1 := fun e => by have := hl1 _ e; omega
  have hz2 : w.heap.size ∉ f2 := fun e => by have := hl2 _ e; omega
  obtain ⟨r1, hr1⟩ : ∃ r1, r1 = (rclearF E b s).1 := ⟨_, rfl⟩
  rw [← hr1] at HPC HDC
  have q1 : (r1 == r1) = true := by simp
  clear h good' heq hh hwf hwl hr1 hd12 hl1 hl2
  go_enter Tryz.func14, Tryz.ntmps14
  go_wp2_with fail
  go_region_held3 (fun W => W.cell? ⟨g, 0, none⟩ = some (.pointer (some ⟨x, 0, none⟩)) ∧ W.cell? ⟨w.heap.size, 2, none⟩ = some (.int .i64 b) ∧ W.cell? ⟨w.heap.size, 4, none⟩ = some (.string s)) (first | go_keep | (exact ⟨k0, k2, k4⟩)) (first
      | (go_at_call 23
         refine (HPC.out _ (fr_drew (fr_alloc w _))).mono ?_
         rintro e w1 ⟨rfl, ht⟩
         have HT := hid ht
         obtain ⟨_, _, _, _, hfr⟩ := ht
         have k0 := keepc hfr (keep0 (fr_drew (fr_alloc w _)) c0) hg1
         have k1 := keepc hfr (keep0 (fr_drew (fr_alloc w _)) c1) hg1
         have k2 := keepc hfr (keep0 (fr_drew (Fr.refl _ _)) (cell_new (w := w) (cs := #[.int .i64 4, .int .i64 a, .int .i64 b, .int .i64 c, .string s]) (t := 30) (j := 2) rfl)) hz1
         have k4 := keepc hfr (keep0 (fr_drew (Fr.refl _ _)) (cell_new (w := w) (cs := #[.int .i64 4, .int .i64 a, .int .i64 b, .int .i64 c, .string s]) (t := 30) (j := 4) rfl)) hz1
         clear hfr))
  go_wp2_with fail
  go_region_held3 (fun W => W.cell? ⟨g, 1, none⟩ = some (.pointer (some ⟨y, 0, none⟩)) ∧ W.cell? ⟨w.heap.size, 2, none⟩ = some (.int .i64 b) ∧ W.cell? ⟨w.heap.size, 4, none⟩ = some (.string s)) (first | go_keep | (exact ⟨m1, m2, m4⟩)) (first
      | (go_at_call 24
         refine (HDC.out _ _ _ (fr_drew (fr_alloc w _)) HT.out (fr_drew (Fr.refl _ _))).mono ?_
         rintro e w2 ⟨⟨rfl, ht2⟩, hfr⟩
         have HT2 := hid ht2
         have m1 := keepc hfr (keep0 (fr_drew (Fr.refl _ _)) k1) hg2
         have m2 := keepc hfr (keep0 (fr_drew (Fr.refl _ _)) k2) hz2
         have m4 := keepc hfr (keep0 (fr_drew (Fr.refl _ _)) k4) hz2
         clear hfr ht2))
  go_wp2_with (go_at_call 18; refine (num_any _ _).mono ?_; rintro e w' ⟨rfl, rfl⟩)
  go_ret
  exact ⟨rfl, HFIN.out _ _ _ (fr_drew (fr_alloc w _)) HT.out HT2.out⟩

set_option maxRecDepth 20000 in
set_option maxHeartbeats 2000000 in
theorem pair_abort (g x y : Nat) (X : PEng) (E : Eng) (f1 f2 : List Nat) (i : Nat) (a b c : Int) (s : ByteArray) (w : World) (h : Start g x y X E f1 f2 i w) :
    Calls Tryz.prog 14 #[.pointer (some ⟨g, 0, none⟩), stepV 6 a b c s] w fun e w' => e = .returned (.bool true) ∧ PairTo g i (g :: (f1 ++ f2)) w w' := by
  obtain ⟨hg1, hg2, hd12, hn1, hn2, hl1, hl2⟩ := h.apart
  obtain ⟨good', heq, hh⟩ := good_abort h.good b
  have hsm := h.small
  have hwf := h.good.wf (by omega)
  have hwl : ∀ S ∈ E.opn, (S.wr.length + 1) * 24 ≤ 140737488355328 := fun S hS => by have := h.good.2.wrLen S hS; omega
  have HPC : Hid (∀ W, Fr [] w W → Calls Tryz.prog 27 #[.pointer (some ⟨x, 0, none⟩), .int .i64 b] W fun e w' => e = .returned (.int .i64 (rabortF E b).1) ∧ ATo (PEngA x (pabortF X b).2) f1 W w') := hid (by
    intro W hW
    obtain ⟨kv, hk⟩ := (h.pair.grown hW).prog
    refine (pabort_any x X kv b W hk.1).mono ?_
    rintro e w' ⟨rfl, hp⟩
    exact ⟨by rw [heq], hp.to hk hn1 hh⟩)
  have HDC : Hid (∀ W W1 W1', Fr [] w W → ATo (PEngA x (pabortF X b).2) f1 W W1 → Fr [] W1 W1' → Calls Tryz.prog 28 #[.pointer (some ⟨y, 0, none⟩), .int .i64 b] W1' fun e w' => (e = .returned (.int .i64 (rabortF E b).1) ∧ EngTo (QR X.src) y (rabortF E b).2 f2 W1 w') ∧ Fr f2 W1' w') := hid (by
    intro W W1 W1' hW h1 hf
    refine (rabort_any (QR.framed _) (QR.within _) b ((h.grown hW).docD h1 hf) hn2 hwf.opnLen).mono ?_
    rintro e w' ⟨rfl, ht⟩
    exact ⟨⟨rfl, ht.before hf⟩, by obtain ⟨_, _, _, _, r⟩ := ht; exact r⟩)
  have HFIN : Hid (∀ W W1 W2, Fr [] w W → ATo (PEngA x (pabortF X b).2) f1 W W1 → EngTo (QR X.src) y (rabortF E b).2 f2 W1 W2 → PairTo g i (g :: (f1 ++ f2)) w W2) := hid (by
    intro W W1 W2 hW h1 h2
    exact ⟨_, pair_close h.pair h.nodup (h1.before hW) h2 (pabort_src X b), good'⟩)
  have c0 : w.cell? ⟨g, 0, none⟩ = some (.pointer (some ⟨x, 0, none⟩)) := by rw [cell_of_row _ _ _ _ _ _ h.pair.block]; rfl
  have c1 : w.cell? ⟨g, 1, none⟩ = some (.pointer (some ⟨y, 0, none⟩)) := by rw [cell_of_row _ _ _ _ _ _ h.pair.block]; rfl
  have hgl := lt_of_block h.pair.block
  have hgz : g ≠ w.heap.size := by omega
  have hz1 : w.heap.size ∉ f1 := fun e => by have := hl1 _ e; omega
  have hz2 : w.heap.size ∉ f2 := fun e => by have := hl2 _ e; omega
  obtain ⟨r1, hr1⟩ : ∃ r1, r1 = (rabortF E b).1 := ⟨_, rfl⟩
  rw [← hr1] at HPC HDC
  have q1 : (r1 == r1) = true := by simp
  clear h good' heq hh hwf hwl hr1 hd12 hl1 hl2
  go_enter Tryz.func14, Tryz.ntmps14
  go_wp2_with fail
  go_region_held3 (fun W => W.cell? ⟨g, 0, none⟩ = some (.pointer (some ⟨x, 0, none⟩)) ∧ W.cell? ⟨w.heap.size, 2, none⟩ = some (.int .i64 b)) (first | go_keep | (exact ⟨k0, k2⟩)) (first
      | (go_at_call 27
         refine (HPC.out _ (fr_drew (fr_alloc w _))).mono ?_
         rintro e w1 ⟨rfl, ht⟩
         have HT := hid ht
         obtain ⟨_, _, _, _, hfr⟩ := ht
         have k0 := keepc hfr (keep0 (fr_drew (fr_alloc w _)) c0) hg1
         have k1 := keepc hfr (keep0 (fr_drew (fr_alloc w _)) c1) hg1
         have k2 := keepc hfr (keep0 (fr_drew (Fr.refl _ _)) (cell_new (w := w) (cs := #[.int .i64 6, .int .i64 a, .int .i64 b, .int .i64 c, .string s]) (t := 30) (j := 2) rfl)) hz1
         clear hfr))
  go_wp2_with fail
  go_region_held3 (fun W => W.cell? ⟨g, 1, none⟩ = some (.pointer (some ⟨y, 0, none⟩)) ∧ W.cell? ⟨w.heap.size, 2, none⟩ = some (.int .i64 b)) (first | go_keep | (exact ⟨m1, m2⟩)) (first
      | (go_at_call 28
         refine (HDC.out _ _ _ (fr_drew (fr_alloc w _)) HT.out (fr_drew (Fr.refl _ _))).mono ?_
         rintro e w2 ⟨⟨rfl, ht2⟩, hfr⟩
         have HT2 := hid ht2
         have m1 := keepc hfr (keep0 (fr_drew (Fr.refl _ _)) k1) hg2
         have m2 := keepc hfr (keep0 (fr_drew (Fr.refl _ _)) k2) hz2
         clear hfr ht2))
  go_wp2_with (go_at_call 18; refine (num_any _ _).mono ?_; rintro e w' ⟨rfl, rfl⟩)
  go_ret
  exact ⟨rfl, HFIN.out _ _ _ (fr_drew (fr_alloc w _)) HT.out HT2.out⟩

end Go.Proofs.YthlhbjnkohinmaaGreat
