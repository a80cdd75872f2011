/- What a session sees, as the program tells it. -/
import Derived.Test.YtcaenpfbihmjmaaPs5
namespace Go.Proofs.Ytcaenpfbihmjmaa
open Go.RowKit

/-- What a session sees of a cell, over what the cells have. -/
def seenW (S : PSes) (f : Nat → Option Int) (c : Nat) : Option Int := match S.wr c with
  | some v => v
  | none => f c
def seenN (S : PSes) (f : Nat → Option Int) (n : Nat) : List ByteArray := (List.range n).filterMap fun c => (seenW S f c).map (factP c)
theorem seenN_succ (S : PSes) (f : Nat → Option Int) (n : Nat) : seenN S f (n + 1) = seenN S f n ++ ((seenW S f n).map (factP n)).toList := by
  unfold seenN
  rw [List.range_succ, List.filterMap_append]
  cases h : seenW S f n <;> simp [h]
theorem size_factP (c : Nat) (v : Int) : (factP c v).size = 3 := rfl
theorem seenN_size (S : PSes) (f : Nat → Option Int) : ∀ n, (joined (seenN S f n)).size ≤ 3 * n
  | 0 => by simp [seenN, joined]
  | n + 1 => by
    have ih := seenN_size S f n
    rw [seenN_succ]
    cases seenW S f n with
    | none => simp; omega
    | some v =>
      simp only [Option.map_some, Option.toList_some]
      rw [joined_snoc, ByteArray.size_append, size_factP]
      omega

/-- Values are digits. -/
def Digs (g : Nat → Option Int) : Prop := ∀ c v, c < 60 → g c = some v → 0 ≤ v ∧ v ≤ 9

set_option maxRecDepth 20000 in
set_option maxHeartbeats 4000000 in
theorem sview_any (b o : Nat) (S : PSes) (f : Nat → Option Int) (sc : Array Value) (w : World) (h : SesAt w b o S) (hsc : StArr sc 60 f) (hd : Digs (seenW S f)) :
    Calls Try.prog 31 #[.pointer (some ⟨b, o, none⟩), .agg sc] w fun e w' => e = .returned (.string (joined (seenN S f 60))) ∧ w.grownBy w' none := by
  have hbl : b < w.heap.size := World.block_lt_of_cell? w _ h.num
  have HS := hid h
  have HSC := hid hsc
  have HD := hid hd
  clear h hsc hd
  go_enter Try.func31, Try.ntmps31
  go_wp2_with fail
  go_loopw [5, 6] (fun t i wr => ∃ k : Nat, k ≤ 60 ∧ i = .int .i64 k ∧ t = .string (joined (seenN S f k)) ∧ w.grownBy wr none ∧ wr.heap[w.heap.size]? = some (.cells sc 89 (0, 0))) (fun _ i _ => 60 - (intOf i).toNat)
  case atStart => exact ⟨0, by omega, rfl, rfl, grown_alloc (grown_refl _ _) _, heap_alloc_new w _⟩
  case round =>
    obtain ⟨k, hk, rfl, rfl, hg, hb0⟩ := hrel
    have HG := hid hg
    have HB0 := hid hb0
    by_cases hlt : k < 60
    · have d0 : wr.cell? ⟨w.heap.size, k * 2, none⟩ = some (.bool (f k).isSome) := by rw [cell_of_row _ _ _ _ _ _ hb0]; exact HSC.out.fill k hlt
      have d1 : wr.cell? ⟨w.heap.size, k * 2 + 1, none⟩ = some (.int .i64 ((f k).getD 0)) := by rw [cell_of_row _ _ _ _ _ _ hb0]; exact HSC.out.val k hlt
      have m0 := grown_cell hg (HS.out.made k hlt)
      have m1 := grown_cell hg (HS.out.filled k hlt)
      have m2 := grown_cell hg (HS.out.val k hlt)
      have hsz := hg.size
      have hl0 := lt_of_block hb0
      have z1 : b ≠ wr.heap.size := by omega
      have z2 : w.heap.size ≠ wr.heap.size := by omega
      have z3 : b < wr.heap.size := by omega
      have HJ := hid (seenN_succ S f k)
      have hjs := seenN_size S f k
      have HDK := hid (HD.out k)
      obtain ⟨jt, hjt⟩ : ∃ jt, jt = joined (seenN S f k) := ⟨_, rfl⟩
      have hjz : jt.size ≤ 180 := by rw [hjt]; omega
      rw [← hjt]
      have HJT := hid hjt
      obtain ⟨f0, hf0⟩ : ∃ f0, f0 = (f k).isSome := ⟨_, rfl⟩
      obtain ⟨f1, hf1⟩ : ∃ f1, f1 = (f k).getD 0 := ⟨_, rfl⟩
      rw [← hf0] at d0
      rw [← hf1] at d1
      have HF0 := hid hf0
      have HF1 := hid hf1
      clear hjt hjs hg hb0 hl0 hf0 hf1
      have hskip : Hid (seenW S f k = none → ∀ W, wr.grownBy W none → w.grownBy W none ∧ W.heap[w.heap.size]? = some (.cells sc 89 (0, 0)) ∧ jt = joined (seenN S f (k + 1))) := hid (fun e W hW => ⟨grown_trans HG.out hW, (hW.block _ (lt_of_block HB0.out) (by simp)).trans HB0.out, by rw [HJ.out, e, HJT.out]; simp⟩)
      have hadd : Hid (∀ v, seenW S f k = some v → (0 ≤ v ∧ v ≤ 9) ∧ ∀ W, wr.grownBy W none → w.grownBy W none ∧ W.heap[w.heap.size]? = some (.cells sc 89 (0, 0)) ∧ jt ++ factP k v = joined (seenN S f (k + 1))) := hid (fun v e => ⟨HDK.out v hlt e, fun W hW => ⟨grown_trans HG.out hW, (hW.block _ (lt_of_block HB0.out) (by simp)).trans HB0.out, by rw [HJ.out, e, HJT.out]; simp [joined_snoc]⟩⟩)
      cases hw : S.wr k with
      | none =>
        rw [hw] at m0 m1 m2
        simp only [wMade, wFilled, wVal, Option.isSome_none] at m0 m1 m2
        have hsw : seenW S f k = f k := by unfold seenW; rw [hw]
        cases hfk : f k with
        | none =>
          have e0 : f0 = false := by rw [HF0.out, hfk]; rfl
          subst e0
          have HSK := hid (hskip.out (by rw [hsw, hfk]))
          clear hw hsw hfk hskip hadd HF0 HF1 HD HDK
          go_wp2_with fail
          go_roundw
          case rel =>
            obtain ⟨q1, q2, q3⟩ := HSK.out _ (grown_alloc (grown_refl wr none) _)
            exact ⟨k + 1, by omega, by go_num, by rw [q3], q1, q2⟩
          case measure => simp [intOf]; omega
        | some v =>
          have e0 : f0 = true := by rw [HF0.out, hfk]; rfl
          have e1 : f1 = v := by rw [HF1.out, hfk]; rfl
          subst e0
          subst e1
          obtain ⟨⟨hv0, hv9⟩, had⟩ := hadd.out f1 (by rw [hsw, hfk])
          have HAD := hid had
          have HWF := hid (fun W => wrfact_any k f1 W hlt hv0 hv9)
          have hfz := size_factP k f1
          obtain ⟨ft, hft⟩ : ∃ ft, ft = factP k f1 := ⟨_, rfl⟩
          rw [← hft] at HAD HWF hfz
          clear hw hsw hfk hskip hadd HF0 HF1 HD HDK had hft
          go_wp2_with fail
          go_at_call 37
          refine (HWF.out _).mono ?_
          rintro e w1 ⟨rfl, hg1⟩
          have HG1 := hid hg1
          clear hg1
          go_wp2_with fail
          go_roundw
          case rel =>
            obtain ⟨q1, q2, q3⟩ := HAD.out _ (grown_trans (grown_alloc (grown_refl wr none) _) HG1.out)
            exact ⟨k + 1, by omega, by go_num, by rw [q3], q1, q2⟩
          case measure => simp [intOf]; omega
      | some p =>
        rw [hw] at m0 m1 m2
        have hsw : seenW S f k = p := by unfold seenW; rw [hw]
        cases p with
        | none =>
          simp only [wMade, wFilled, wVal, Option.isSome_some] at m0 m1 m2
          have HSK := hid (hskip.out hsw)
          clear hw hsw hskip hadd HF0 HF1 HD HDK
          go_wp2_with fail
          go_roundw
          case rel =>
            obtain ⟨q1, q2, q3⟩ := HSK.out _ (grown_alloc (grown_refl wr none) _)
            exact ⟨k + 1, by omega, by go_num, by rw [q3], q1, q2⟩
          case measure => simp [intOf]; omega
        | some v =>
          simp only [wMade, wFilled, wVal, Option.isSome_some] at m0 m1 m2
          obtain ⟨⟨hv0, hv9⟩, had⟩ := hadd.out v hsw
          have HAD := hid had
          have HWF := hid (fun W => wrfact_any k v W hlt hv0 hv9)
          have hfz := size_factP k v
          obtain ⟨ft, hft⟩ : ∃ ft, ft = factP k v := ⟨_, rfl⟩
          rw [← hft] at HAD HWF hfz
          clear hw hsw hskip hadd HF0 HF1 HD HDK had hft
          go_wp2_with fail
          go_at_call 37
          refine (HWF.out _).mono ?_
          rintro e w1 ⟨rfl, hg1⟩
          have HG1 := hid hg1
          clear hg1
          go_wp2_with fail
          go_roundw
          case rel =>
            obtain ⟨q1, q2, q3⟩ := HAD.out _ (grown_trans (grown_alloc (grown_refl wr none) _) HG1.out)
            exact ⟨k + 1, by omega, by go_num, by rw [q3], q1, q2⟩
          case measure => simp [intOf]; omega
    · have hk60 : k = 60 := by omega
      subst hk60
      clear hg hb0
      go_wp2_with fail
      go_ret
      exact ⟨rfl, HG.out⟩

end Go.Proofs.Ytcaenpfbihmjmaa
