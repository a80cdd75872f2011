/- A pair's Commit. -/
import Derived.Test.YthlhbjnkohinmaaGreatPsD
import Derived.Test.YthlhbjnkohinmaaGreatRefCom2
import Derived.Test.YthlhbjnkohinmaaGreatPair4
namespace Go.Proofs.YthlhbjnkohinmaaGreat
open Go.RowKit

theorem newest_mem {wr : List Wr} {q : Wr} (h : q ∈ newest wr) : q ∈ wr := by
  unfold newest newestN at h
  rw [List.mem_filterMap] at h
  obtain ⟨c, _, hn⟩ := h
  unfold newestAt at hn
  cases h1 : lastI (cellT c) wr with
  | none => rw [h1] at hn; cases hn
  | some k =>
    rw [h1] at hn
    have hk := lastI_lt h1
    simp only [Option.map_some, Option.some.injEq] at hn
    rw [← hn]
    simp [List.getD, hk]
theorem commit_hist_le (X : PEng) (n : Int) (c : Nat) : ((pcommitF X n).2.hist c).length ≤ (X.hist c).length + 1 := by
  unfold pcommitF
  cases findP X n with
  | none => exact Nat.le_succ _
  | some k =>
    simp only []
    cases hasW (X.ses k) with
    | false => exact Nat.le_succ _
    | true =>
      cases clash X (X.ses k) with
      | true => exact Nat.le_succ _
      | false =>
        show (match (X.ses k).wr c with | some v => X.hist c ++ [(X.latest + 1, v)] | none => X.hist c).length ≤ _
        cases (X.ses k).wr c with
        | none => exact Nat.le_succ _
        | some v => simp
theorem good_commit {i : Nat} {X : PEng} {E : Eng} (h : Good i (X, E)) (n : Int) (hk : E.kept.length + 60 ≤ 999) : Good (i + 1) ((pcommitF X n).2, (rcommitF E n).2) ∧ (pcommitF X n).1 = (rcommitF E n).1 := by
  obtain ⟨⟨L, hs⟩, hb⟩ := h
  obtain ⟨h1, h2⟩ := hs.commit n
  have hh : ∀ c, ((pcommitF X n).2.hist c).length ≤ i + 1 := fun c => by
    have a1 := commit_hist_le X n c
    have a2 := hb.hist c
    simp only at a2
    omega
  refine ⟨⟨h2, ?_⟩, h1⟩
  show Bnd (i + 1) (pcommitF X n).2 (rcommitF E n).2
  have b := hb.mono (Nat.le_succ i)
  unfold rcommitF
  cases hf : findS E.opn n with
  | none => exact ⟨b.room, b.opened, b.wrLen, b.wrVal, b.comLen, b.comEach, b.comVal, b.kept, hh⟩
  | some S =>
    have hS : S ∈ E.opn := List.mem_of_find?_eq_some hf
    simp only []
    cases rclash E S with
    | true => exact bnd_end b n hh
    | false =>
      cases he : (newest S.wr).isEmpty with
      | true => exact bnd_end b n hh
      | false =>
        have hl : (newest S.wr).length ≤ 60 := newestN_le _ 60
        have hc : Bnd (i + 1) X (E.commit (newest S.wr)) := by
          refine ⟨b.room, b.opened, b.wrLen, b.wrVal, ?_, fun l hlm => ?_, fun l hlm => ?_, ?_, b.hist⟩
          · have := hb.comLen
            simp only at this
            simp [Eng.commit]
            omega
          · simp only [Eng.commit, List.mem_append, List.mem_singleton] at hlm
            rcases hlm with hlm | rfl
            · exact b.comEach l hlm
            · exact hl
          · simp only [Eng.commit, List.mem_append, List.mem_singleton] at hlm
            rcases hlm with hlm | rfl
            · exact b.comVal l hlm
            · intro q hq
              exact b.wrVal S hS q (newest_mem hq)
          · simp [Eng.commit]
            omega
        exact bnd_end hc n hh

set_option maxRecDepth 20000 in
set_option maxHeartbeats 2000000 in
theorem pair_commit (g x y : Nat) (X : PEng) (E : Eng) (f1 f2 : List Nat) (i : Nat) (a b c : Int) (s : ByteArray) (w : World) (h : Start g x y X E f1 f2 i w) (hkept : E.kept.length + 60 ≤ 999) :
    Calls Tryz.prog 15 #[.pointer (some ⟨g, 0, none⟩), stepV 7 a b c s] w fun e w' => e = .returned (.bool true) ∧ PairTo g i (g :: (f1 ++ f2)) w w' := by
  obtain ⟨hg1, hg2, hd12, hn1, hn2, hl1, hl2⟩ := h.apart
  obtain ⟨good', heq⟩ := good_commit h.good b hkept
  have hsm := h.small
  have hwf := h.good.wf (by omega)
  obtain ⟨L, hs⟩ := h.good.1
  have hlat := hs.latest
  have hcl := h.good.2.comLen
  have hhl := h.good.2.hist
  have hroom := h.good.2.room
  simp only at hlat hcl hhl hroom
  have HPC : Hid (∀ W, Fr [] w W → Calls Tryz.prog 29 #[.pointer (some ⟨x, 0, none⟩), .int .i64 b] W fun e w' => e = .returned (.tuple #[.int .i64 (rcommitF E b).1.1, .int .i64 (rcommitF E b).1.2]) ∧ ATo (PEngA x (pcommitF X b).2) f1 W w') := hid (by
    intro W hW
    refine (pcommit_any x X f1 b W (h.pair.grown hW).prog hn1 (by omega) (fun c _ => by have := hhl c; omega) (fun k _ => by have := hs.kept; have := hs.room; have := writN_le (X.ses k) 60; simp only at *; omega) (by have := hs.room; simp only at this; omega)).mono ?_
    rintro e w' ⟨rfl, hp⟩
    exact ⟨by rw [heq], hp⟩)
  have HDC : Hid (∀ W W1 W1', Fr [] w W → ATo (PEngA x (pcommitF X b).2) f1 W W1 → Fr [] W1 W1' → Calls Tryz.prog 30 #[.pointer (some ⟨y, 0, none⟩), .int .i64 b] W1' fun e w' => (e = .returned (.tuple #[.int .i64 (rcommitF E b).1.1, .int .i64 (rcommitF E b).1.2]) ∧ EngTo (QR X.src) y (rcommitF E b).2 f2 W1 w') ∧ Fr f2 W1' w') := hid (by
    intro W W1 W1' hW h1 hf
    refine (rcommit_any (QR.framed _) (QR.within _) b ((h.grown hW).docD h1 hf) hn2 hwf hroom hkept (by omega)).mono ?_
    rintro e w' ⟨rfl, ht⟩
    exact ⟨⟨rfl, ht.before hf⟩, by obtain ⟨_, _, _, _, r⟩ := ht; exact r⟩)
  have HFIN : Hid (∀ W W1 W2, Fr [] w W → ATo (PEngA x (pcommitF X b).2) f1 W W1 → EngTo (QR X.src) y (rcommitF E b).2 f2 W1 W2 → PairTo g i (g :: (f1 ++ f2)) w W2) := hid (by
    intro W W1 W2 hW h1 h2
    exact ⟨_, pair_close h.pair h.nodup (h1.before hW) h2 (pcommit_src X b), good'⟩)
  have c0 : w.cell? ⟨g, 0, none⟩ = some (.pointer (some ⟨x, 0, none⟩)) := by rw [cell_of_row _ _ _ _ _ _ h.pair.block]; rfl
  have c1 : w.cell? ⟨g, 1, none⟩ = some (.pointer (some ⟨y, 0, none⟩)) := by rw [cell_of_row _ _ _ _ _ _ h.pair.block]; rfl
  have hgl := lt_of_block h.pair.block
  have hgz : g ≠ w.heap.size := by omega
  have hz1 : w.heap.size ∉ f1 := fun e => by have := hl1 _ e; omega
  have hz2 : w.heap.size ∉ f2 := fun e => by have := hl2 _ e; omega
  obtain ⟨r1, hr1⟩ : ∃ r1, r1 = (rcommitF E b).1.1 := ⟨_, rfl⟩
  obtain ⟨r2, hr2⟩ : ∃ r2, r2 = (rcommitF E b).1.2 := ⟨_, rfl⟩
  rw [← hr1, ← hr2] at HPC HDC
  have q1 : (r1 == r1) = true := by simp
  have q2 : (r2 == r2) = true := by simp
  clear h good' heq hwf hr1 hr2 hd12 hl1 hl2 hs hlat hcl hhl hroom hkept
  go_enter Tryz.func15, Tryz.ntmps15
  go_wp2_with fail
  go_region_held3 (fun W => W.cell? ⟨g, 0, none⟩ = some (.pointer (some ⟨x, 0, none⟩)) ∧ W.cell? ⟨w.heap.size, 2, none⟩ = some (.int .i64 b)) (first | go_keep | (exact ⟨k0, k2⟩)) (first
      | (go_at_call 29
         refine (HPC.out _ (fr_drew (fr_alloc w _))).mono ?_
         rintro e w1 ⟨rfl, ht⟩
         have HT := hid ht
         obtain ⟨_, _, _, _, hfr⟩ := ht
         have k0 := keepc hfr (keep0 (fr_drew (fr_alloc w _)) c0) hg1
         have k1 := keepc hfr (keep0 (fr_drew (fr_alloc w _)) c1) hg1
         have k2 := keepc hfr (keep0 (fr_drew (Fr.refl _ _)) (cell_new (w := w) (cs := #[.int .i64 7, .int .i64 a, .int .i64 b, .int .i64 c, .string s]) (t := 30) (j := 2) rfl)) hz1
         clear hfr))
  go_wp2_with fail
  go_region_held3 (fun W => W.cell? ⟨g, 1, none⟩ = some (.pointer (some ⟨y, 0, none⟩)) ∧ W.cell? ⟨w.heap.size, 2, none⟩ = some (.int .i64 b)) (first | go_keep | (exact ⟨m1, m2⟩)) (first
      | (go_at_call 30
         refine (HDC.out _ _ _ (fr_drew (fr_alloc w _)) HT.out (fr_drew (Fr.refl _ _))).mono ?_
         rintro e w2 ⟨⟨rfl, ht2⟩, hfr⟩
         have HT2 := hid ht2
         have m1 := keepc hfr (keep0 (fr_drew (Fr.refl _ _)) k1) hg2
         have m2 := keepc hfr (keep0 (fr_drew (Fr.refl _ _)) k2) hz2
         clear hfr ht2))
  go_wp2_with (go_at_call 18; refine (num_any _ _).mono ?_; rintro e w' ⟨rfl, rfl⟩)
  go_ret
  exact ⟨rfl, HFIN.out _ _ _ (fr_drew (fr_alloc w _)) HT.out HT2.out⟩

end Go.Proofs.YthlhbjnkohinmaaGreat
