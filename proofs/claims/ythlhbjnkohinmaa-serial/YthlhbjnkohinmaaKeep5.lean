/- The book of Serial: Open. -/
import Derived.Test.YthlhbjnkohinmaaKeep4
import Derived.Deep.RegionLaw
namespace Go.Proofs.Ythlhbjnkohinmaa
open Go.RowKit

/-- What is known after i acts. -/
structure KGood (i : Nat) (B : Bk) (X : PEng) : Prop where
  sim : ∃ L, BSim X B L
  few : B.cls.length ≤ i
  hist : ∀ c, (X.hist c).length ≤ i
  com : B.commits ≤ i
  cnt : Few i X
theorem KGood.mono {i j : Nat} {B : Bk} {X : PEng} (h : KGood i B X) (hij : i ≤ j) : KGood j B X := ⟨h.sim, Nat.le_trans h.few hij, fun c => Nat.le_trans (h.hist c) hij, by have := h.com; omega, h.cnt.mono hij⟩
/-- The book and the engine behind an act. -/
def KNext (b x i : Nat) (f : List Nat) (w w' : World) : Prop := ∃ B' X', KTo b x B' X' f w w' ∧ KGood (i + 1) B' X'

set_option maxRecDepth 20000 in
set_option maxHeartbeats 2000000 in
theorem bopened_any (b x i : Nat) (B : Bk) (X : PEng) (fb fx : List Nat) (w : World) (h : KAt b x B X w fb fx) (hg : KGood i B X) (hi : i ≤ 4000000000000) :
    Calls Try.prog 10 #[.pointer (some ⟨b, 0, none⟩), .pointer (some ⟨x, 0, none⟩)] w fun e w' => e = .returned (.bool true) ∧ KNext b x i (fb ++ fx) w w' := by
  obtain ⟨i0, hi0, hz0, hz1, hz2⟩ := info_parts Try.info69
  obtain ⟨nb, nx, dis, lb, lx⟩ := h.parts
  obtain ⟨L, hs⟩ := hg.sim
  have hfew := hg.few
  have hop := hs.opened
  have HO := hid (popen_to x X fx w h.eng nx (by omega))
  have HBA : Hid (∀ w1, ATo (PEngA x (popenF X).2) fx w w1 → BkA b B w1 fb) := hid (fun w1 h1 => h.bookAt h1)
  have HSAME : Hid (∀ w1, numberedP X 0 = none → ATo (PEngA x (popenF X).2) fx w w1 → KNext b x i (fb ++ fx) w w1) := hid (fun w1 hf h1 => by
    have e : (popenF X).2 = X := by unfold popenF; rw [hf]
    have hb := h.bookAt h1
    rw [e] at h1
    exact ⟨B, X, KTo.both h h1 ⟨fb, hb, nb, fun _ hy => .inl hy, Fr.refl _ _⟩, hg.mono (Nat.le_succ i)⟩)
  have HNEW : Hid (∀ w1 w2 k, numberedP X 0 = some k → ATo (PEngA x (popenF X).2) fx w w1 → ATo (BkA b (B.open (X.opened + 1))) fb w1 w2 → KNext b x i (fb ++ fx) w w2) := hid (fun w1 w2 k hf h1 h2 => by
    obtain ⟨L', hs'⟩ := hs.open hf
    refine ⟨B.open (X.opened + 1), (popenF X).2, KTo.both h h1 h2, ⟨L', hs'⟩, ?_, fun c => ?_, ?_, hg.cnt.open⟩
    · simp [Bk.open]; omega
    · rw [popen_hist]; exact Nat.le_succ_of_le (hg.hist c)
    · have := hg.com
      show B.commits ≤ ((i + 1 : Nat) : Int)
      omega)
  have hfull := hs.full
  have HFULL := hid hfull
  have hbk := h.book
  obtain ⟨v, ps, f2, f3, hbA, hrow, hcl, rfl⟩ := hbk
  obtain ⟨a, m, cp, rfl⟩ := own_slice hrow.1
  have em := own_len hrow.1
  subst em
  have c0 := hbA.cls
  have hbl := hbA.lt
  have hpl := EachA.len hcl
  have HCL := hid hcl
  have HROW := hid hrow.1
  have HNB := hid nb
  clear hs hg hcl hbA h hfull hrow nb nx dis lb lx
  go_enter Try.func10, Try.ntmps10
  go_wp2_with fail
  go_loop [5, 6] (fun t i => ∃ k : Nat, k ≤ B.cls.length ∧ i = .int .i64 k ∧ t = .int .i64 (liveN (B.cls.take k))) (fun _ i => B.cls.length - (intOf i).toNat)
  case atStart => exact ⟨0, by omega, rfl, rfl⟩
  case round =>
    obtain ⟨k, hk, rfl, rfl⟩ := hrel
    by_cases hlt : k < B.cls.length
    · have hlt2 : k < ps.length := by omega
      obtain ⟨gr, rfl, _, hgb, hgl, hcell⟩ := own_cell HROW.out (by omega)
      obtain ⟨_, ⟨g, hpk, hca, _⟩, _⟩ := EachA.get HCL.out k hlt2 hlt
      have d0 : w.cell? ⟨gr, k, none⟩ = some (.pointer (some ⟨g, 0, none⟩)) := by rw [← hpk]; exact hcell k _ (List.getElem?_eq_getElem hlt2)
      have d1 := hca.num
      have HL := hid (liveN_succ B.cls hlt)
      have hll := liveN_le B.cls k
      obtain ⟨nn, hnn⟩ : ∃ nn, nn = B.cls[k].num := ⟨_, rfl⟩
      rw [← hnn] at d1 HL
      obtain ⟨ln, hln⟩ : ∃ ln, ln = liveN (B.cls.take k) := ⟨_, rfl⟩
      rw [← hln] at HL hll ⊢
      clear hcell hca hnn hpk hln
      by_cases hp : nn > 0
      · have HL' : Hid (liveN (B.cls.take (k + 1)) = ln + 1) := hid (by rw [HL.out, if_pos hp])
        go_wp2_with fail
        go_round
        case rel => exact ⟨k + 1, by omega, by go_num, by rw [HL'.out]; go_num⟩
        case measure => simp [intOf]; omega
      · have HL' : Hid (liveN (B.cls.take (k + 1)) = ln) := hid (by rw [HL.out, if_neg hp]; rfl)
        go_wp2_with fail
        go_round
        case rel => exact ⟨k + 1, by omega, by go_num, by rw [HL'.out]⟩
        case measure => simp [intOf]; omega
    · have hkl : k = B.cls.length := by omega
      subst hkl
      rw [List.take_length]
      have hll : liveN B.cls ≤ B.cls.length := by have := liveN_le B.cls B.cls.length; rwa [List.take_length] at this
      obtain ⟨ln, hln⟩ : ∃ ln, ln = liveN B.cls := ⟨_, rfl⟩
      rw [← hln] at HFULL hll ⊢
      clear hln
      cases hf : numberedP X 0 with
      | none =>
        have h8 := HFULL.out.mpr hf
        have e1 : (popenF X).1 = (0, 7) := by unfold popenF; rw [hf]
        rw [e1] at HO
        have HS := hid (fun w1 => HSAME.out w1 hf)
        clear e1 hf
        go_wp2_with fail
        go_at_call 13
        refine HO.out.mono ?_
        rintro e w1 ⟨rfl, ht⟩
        have HT := hid ht
        clear ht
        go_wp2_with fail
        go_ret
        exact ⟨rfl, HS.out _ HT.out⟩
      | some kk =>
        have h8 : ¬ 8 ≤ ln := fun h => by have := HFULL.out.mp h; rw [hf] at this; cases this
        have e1 : (popenF X).1 = (X.opened + 1, 0) := by unfold popenF; rw [hf]
        rw [e1] at HO
        have HN := hid (fun w1 w2 => HNEW.out w1 w2 kk hf)
        obtain ⟨nn, hnn⟩ : ∃ nn, nn = X.opened + 1 := ⟨_, rfl⟩
        rw [← hnn] at HO HN
        have hnl : nn = (B.cls.length : Int) + 1 := by omega
        clear e1 hf hnn hop HROW HCL hpl
        go_wp2_with fail
        go_at_call 13
        refine HO.out.mono ?_
        rintro e w1 ⟨rfl, ht⟩
        have HT := hid ht
        obtain ⟨v1, ps1, f21, f31, hb1, hr1, hc1, hf1⟩ := HBA.out w1 ht
        have hnd : (b :: (f21 ++ f31)).Nodup := by rw [← hf1]; exact HNB.out
        have HCLOSE := hid (fun va cap w3 ob => bopen_close (va := va) (cap := cap) (n := nn) (w3 := w3) (ob := ob) hb1 hr1 hc1 hnd)
        obtain ⟨a1, m1, c1, rfl⟩ := own_slice hr1.1
        have em1 := own_len hr1.1
        subst em1
        have y0 := hb1.cls
        have y1 := hb1.commits
        obtain ⟨cs1, hbk1⟩ := hb1.block
        have hb1l := lt_of_block hbk1
        have hrow1 := hr1.1
        have hne1 : (Value.slice a1 B.cls.length c1).ownBlock ≠ some b := own_ne_ty hrow1 hbk1 (by decide)
        have HBK1 := hid hbk1
        have hbz1 : b ≠ w1.heap.size := by omega
        have hbz2 : b ≠ w1.heap.size + 1 := by omega
        have HFE := hid hf1
        obtain ⟨cm, hcm⟩ : ∃ cm, cm = B.commits := ⟨_, rfl⟩
        rw [← hcm] at y1 HCLOSE
        have q1 : (nn == (B.cls.length : Int) + 1) = true := by simpa using hnl
        clear hb1 hr1 hc1 hf1 hnd ht hbk1 hcm hnl
        go_wp2_with fail
        go_region_law (
          refine step_append_lies _ rfl (.tmp 48) (.tmp 56) 27 rfl 0 69 i0 (.pointer none) 1 8 Try.underlying27 hi0 hz0 hz1 hz2 rfl (by decide) (.slice a1 B.cls.length c1) B.cls.length ps1 (by simp [Act.eval]) (own_heap ((hrow1.alloc _).alloc _) rfl) ⟨w1.heap.size + 1, 0, none⟩ 1 1 [.pointer (some ⟨w1.heap.size, 0, none⟩)] (by simp [Act.eval]) rfl (fun j u hj => by
            have := news_at1 (w := w1.alloc (.cells ((Try.zeroCells68.setIfInBounds 0 (.int .i64 nn)).setIfInBounds 1 (.int .i64 cm)) 68)) (t := 69) hj
            simpa using this) (fun u hu => by simp at hu; subst hu; rfl) (by decide) (by unfold maxLen; omega) (by omega) (Nat.zero_le _) _ rfl (fun g3 c3 w3 hown3 hg3 hva3 hvl3 => ?_)
          have hb3 : w3.heap[b]? = some (.cells cs1 31 (0, 0)) := (hg3.block b (by simp; omega) (fun e => hne1 e.symm)).trans ((Below.heap_alloc _ _ _ (by simp; omega)).trans ((Below.heap_alloc _ _ _ (by simpa using hb1l)).trans HBK1.out))
          have d3 : w3.cell? ⟨b, 0, none⟩ = some (.slice a1 B.cls.length c1) := by
            rw [cell_of_row _ _ _ _ _ _ hb3, ← y0, cell_of_row _ _ _ _ _ _ HBK1.out]
          have z3 : w3.frozen? ⟨b, 0, none⟩ = false := frozen_blk hb3 _)
        all_goals
          have HFIN := hid (HCLOSE.out g3 c3 w3 _ hown3 hg3 (by
            rcases hva3 with h | h
            · exact .inl h
            · exact .inr (by rw [h]; simp)))
          clear hown3 hg3 hva3 hb3
          go_wp2_with fail
          go_ret
          refine ⟨rfl, HN.out _ _ HT.out ?_⟩
          rw [HFE.out]
          exact HFIN.out

end Go.Proofs.Ythlhbjnkohinmaa
