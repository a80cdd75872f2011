/- What a session sees, as the program tells it. -/
import Derived.Test.YthlhbjnkohinmaaPs5
import Derived.Test.YthlhbjnkohinmaaOwn
import Derived.Test.YthlhbjnkohinmaaUb2
namespace Go.Proofs.Ythlhbjnkohinmaa
open Go.RowKit

/-- What a session sees of a cell, and since when, over the versions that the cells have. -/
def seenT (S : PSes) (f : Nat → Int × Option Int) (c : Nat) : Option (Int × Int) := match S.wr c with
  | some v => v.map fun x => (x, S.tm c)
  | none => (f c).2.map fun x => (x, (f c).1)
def sawN (S : PSes) (f : Nat → Int × Option Int) (n : Nat) : List PFact := (List.range n).filterMap fun c => (seenT S f c).map fun p => (c, p.1, p.2)
theorem sawN_succ (S : PSes) (f : Nat → Int × Option Int) (n : Nat) : sawN S f (n + 1) = sawN S f n ++ ((seenT S f n).map fun p => (n, p.1, p.2)).toList := by
  unfold sawN
  rw [List.range_succ, List.filterMap_append]
  cases h : seenT S f n <;> simp [h]
theorem sawN_le (S : PSes) (f : Nat → Int × Option Int) (n : Nat) : (sawN S f n).length ≤ n := by
  have := List.length_filterMap_le (fun c => (seenT S f c).map fun p => ((c, p.1, p.2) : PFact)) (List.range n)
  simpa [sawN] using this
theorem size_factP (c : Nat) (v : Int) : (factP c v).size = 3 := rfl
/-- The cells of facts. -/
def fcCells (l : List PFact) : List Value := l.flatMap fun q => [.int .i64 ((q.1 : Int) / 10), .int .i64 ((q.1 : Int) % 10), .int .i64 q.2.1, .int .i64 q.2.2]
theorem fcCells_snoc (l : List PFact) (q : PFact) : fcCells (l ++ [q]) = fcCells l ++ [.int .i64 ((q.1 : Int) / 10), .int .i64 ((q.1 : Int) % 10), .int .i64 q.2.1, .int .i64 q.2.2] := by simp [fcCells]
theorem fcCells_at : ∀ (l : List PFact) (k : Nat) (hk : k < l.length), (fcCells l)[k * 4]? = some (.int .i64 ((l[k].1 : Int) / 10)) ∧ (fcCells l)[k * 4 + 1]? = some (.int .i64 ((l[k].1 : Int) % 10)) ∧ (fcCells l)[k * 4 + 2]? = some (.int .i64 l[k].2.1) ∧ (fcCells l)[k * 4 + 3]? = some (.int .i64 l[k].2.2)
  | p :: l, 0, _ => ⟨rfl, rfl, rfl, rfl⟩
  | p :: l, k + 1, hk => by
    obtain ⟨h1, h2, h3, h4⟩ := fcCells_at l k (by simpa using hk)
    have e : fcCells (p :: l) = .int .i64 ((p.1 : Int) / 10) :: .int .i64 ((p.1 : Int) % 10) :: .int .i64 p.2.1 :: .int .i64 p.2.2 :: fcCells l := rfl
    rw [e, show (k + 1) * 4 = k * 4 + 1 + 1 + 1 + 1 by omega]
    exact ⟨by simpa using h1, by simpa using h2, by simpa using h3, by simpa using h4⟩

theorem Try.info97 : (Try.prog.info? 97).map (fun i => (i.zero, i.size, i.bytes)) = some (some (.agg #[.int .i64 0, .int .i64 0, .int .i64 0, .int .i64 0]), 4, 32) := by kernel_rfl

set_option maxRecDepth 20000 in
set_option maxHeartbeats 4000000 in
theorem ssees_any (b o : Nat) (S : PSes) (f : Nat → Int × Option Int) (sc : Array Value) (w : World) (h : SesAt w b o S) (hsc : StArr sc 60 f) :
    Calls Try.prog 47 #[.pointer (some ⟨b, o, none⟩), .agg sc] w fun e w' => ∃ v, e = .returned v ∧ w'.ownsRow w.heap.size 97 4 v (sawN S f 60).length (fcCells (sawN S f 60)) ∧ w.grownBy w' none := by
  obtain ⟨i0, hi0, hz0, hz1, hz2⟩ := info_parts Try.info97
  have hbl : b < w.heap.size := World.block_lt_of_cell? w _ h.num
  have HS := hid h
  have HSC := hid hsc
  clear h hsc
  go_enter Try.func47, Try.ntmps47
  go_wp2_with fail
  go_loopw [5, 6] (fun t i wr => ∃ k : Nat, k ≤ 60 ∧ i = .int .i64 k ∧ wr.ownsRow w.heap.size 97 4 t (sawN S f k).length (fcCells (sawN S f k)) ∧ w.grownBy wr none ∧ wr.heap[w.heap.size]? = some (.cells sc 109 (0, 0))) (fun _ i _ => 60 - (intOf i).toNat)
  case atStart => exact ⟨0, by omega, rfl, World.ownsRow_nil _ _ _ _, grown_alloc (grown_refl _ _) _, heap_alloc_new w _⟩
  case round =>
    obtain ⟨k, hk, rfl, hown, hg, hb0⟩ := hrel
    have HG := hid hg
    have HB0 := hid hb0
    have HOW := hid hown
    by_cases hlt : k < 60
    · have d0 : wr.cell? ⟨w.heap.size, k * 3, none⟩ = some (.int .i64 (f k).1) := by rw [cell_of_row _ _ _ _ _ _ hb0]; exact HSC.out.stamp k hlt
      have d1 : wr.cell? ⟨w.heap.size, k * 3 + 1, none⟩ = some (.bool (f k).2.isSome) := by rw [cell_of_row _ _ _ _ _ _ hb0]; exact HSC.out.fill k hlt
      have d2 : wr.cell? ⟨w.heap.size, k * 3 + 2, none⟩ = some (.int .i64 ((f k).2.getD 0)) := by rw [cell_of_row _ _ _ _ _ _ hb0]; exact HSC.out.val k hlt
      have m0 := grown_cell hg (HS.out.made k hlt)
      have m1 := grown_cell hg (HS.out.filled k hlt)
      have m2 := grown_cell hg (HS.out.val k hlt)
      have m3 := grown_cell hg (HS.out.tm k hlt)
      have hsz := hg.size
      have hl0 := lt_of_block hb0
      have z1 : b ≠ wr.heap.size := by omega
      have z2 : w.heap.size ≠ wr.heap.size := by omega
      have z3 : b < wr.heap.size := by omega
      have z4 : w.heap.size < wr.heap.size := hl0
      have HJ := hid (sawN_succ S f k)
      have hjl := sawN_le S f k
      obtain ⟨f0, hf0⟩ : ∃ f0, f0 = (f k).1 := ⟨_, rfl⟩
      obtain ⟨f1, hf1⟩ : ∃ f1, f1 = (f k).2.isSome := ⟨_, rfl⟩
      obtain ⟨f2, hf2⟩ : ∃ f2, f2 = (f k).2.getD 0 := ⟨_, rfl⟩
      obtain ⟨tk, htk⟩ : ∃ tk, tk = S.tm k := ⟨_, rfl⟩
      rw [← hf0] at d0
      rw [← hf1] at d1
      rw [← hf2] at d2
      rw [← htk] at m3
      have HF0 := hid hf0
      have HF1 := hid hf1
      have HF2 := hid hf2
      have HTK := hid htk
      obtain ⟨a, m, c, rfl⟩ := own_slice hown
      have em := own_len hown
      subst em
      clear hg hb0 hl0 hf0 hf1 hf2 htk hown
      have hskip : Hid (seenT S f k = none → ∀ W, wr.grownBy W none → W.ownsRow w.heap.size 97 4 (.slice a (sawN S f k).length c) (sawN S f (k + 1)).length (fcCells (sawN S f (k + 1))) ∧ w.grownBy W none ∧ W.heap[w.heap.size]? = some (.cells sc 109 (0, 0))) := hid (fun e W hW => ⟨by
        have := own_kept HOW.out hW (fun g hg => by cases hg)
        rw [HJ.out, e]; simpa using this, grown_trans HG.out hW, (hW.block _ (lt_of_block HB0.out) (by simp)).trans HB0.out⟩)
      have hadd : Hid (∀ v t, seenT S f k = some (v, t) → sawN S f (k + 1) = sawN S f k ++ [(k, v, t)]) := hid (fun v t e => by rw [HJ.out, e]; rfl)
      have HNF : Hid (∀ (v t : Int) (W : World), Calls Try.prog 68 #[.int .i64 k, .int .i64 v, .int .i64 t] W fun e w' => e = .returned (.agg #[.int .i64 ((k : Int) / 10), .int .i64 ((k : Int) % 10), .int .i64 v, .int .i64 t]) ∧ W.grownBy w' none) := hid (fun v t W => newfact_any k v t W hlt)
      have HFIN : Hid (∀ (v t : Int) (W w3 : World) (v' : Value), seenT S f k = some (v, t) → wr.grownBy W none → w3.ownsRow w.heap.size 97 4 v' ((sawN S f k).length + 1) (fcCells (sawN S f k) ++ [.int .i64 ((k : Int) / 10), .int .i64 ((k : Int) % 10), .int .i64 v, .int .i64 t]) → W.grownBy w3 (Value.slice a (sawN S f k).length c).ownBlock → w3.ownsRow w.heap.size 97 4 v' (sawN S f (k + 1)).length (fcCells (sawN S f (k + 1))) ∧ w.grownBy w3 none ∧ w3.heap[w.heap.size]? = some (.cells sc 109 (0, 0))) := hid (by
        intro v t W w3 v' e hW how hg3
        refine ⟨?_, grown_own2 (grown_trans HG.out hW) hg3 (fun g hg => (HOW.out.lt g hg).1), ?_⟩
        · rw [hadd.out v t e, fcCells_snoc]; simpa using how
        · have h1 := (hW.block _ (lt_of_block HB0.out) (by simp)).trans HB0.out
          refine (hg3.block _ (lt_of_block h1) ?_).trans h1
          intro e2
          exact own_ne_ty HOW.out HB0.out (by decide) e2.symm)
      have HOWG : Hid (∀ W, wr.grownBy W none → W.ownsRow w.heap.size 97 4 (.slice a (sawN S f k).length c) (sawN S f k).length (fcCells (sawN S f k))) := hid (fun W hW => own_kept HOW.out hW (fun g hg => by cases hg))
      obtain ⟨nl, hnl⟩ : ∃ nl, nl = (sawN S f k).length := ⟨_, rfl⟩
      obtain ⟨xs, hxs⟩ : ∃ xs, xs = fcCells (sawN S f k) := ⟨_, rfl⟩
      rw [← hnl] at hskip HFIN HOWG hjl ⊢
      rw [← hxs] at HFIN HOWG
      clear hnl hxs HJ hadd
      cases hw : S.wr k with
      | none =>
        rw [hw] at m0 m1 m2
        simp only [wMade, wFilled, wVal, Option.isSome_none] at m0 m1 m2
        have hsw : seenT S f k = (f k).2.map fun x => (x, (f k).1) := by unfold seenT; rw [hw]
        cases hfk : (f k).2 with
        | none =>
          have e0 : f1 = false := by rw [HF1.out, hfk]; rfl
          subst e0
          have HSK := hid (hskip.out (by rw [hsw, hfk]; rfl))
          clear hw hsw hfk hskip HFIN HF0 HF1 HF2 HTK HNF HOWG
          go_wp2_with fail
          go_roundw
          case rel =>
            obtain ⟨q1, q2, q3⟩ := HSK.out _ (grown_alloc (grown_refl wr none) _)
            exact ⟨k + 1, by omega, by go_num, q1, q2, q3⟩
          case measure => simp [intOf]; omega
        | some v =>
          have e0 : f1 = true := by rw [HF1.out, hfk]; rfl
          have e1 : f2 = v := by rw [HF2.out, hfk]; rfl
          subst e0
          subst e1
          have HFI := hid (fun W w3 v' => HFIN.out f2 f0 W w3 v' (by rw [hsw, hfk, HF0.out]; rfl))
          clear hw hsw hfk hskip HFIN HF0 HF1 HF2 HTK
          go_wp2_with fail
          go_at_call 68
          refine (HNF.out _ _ _).mono ?_
          rintro e w1 ⟨rfl, hg1⟩
          have hgW := grown_trans (grown_alloc (grown_refl wr none) (.cells #[.bool true, .int .i64 f2] 76)) hg1
          have HGW := hid hgW
          have how1 := HOWG.out _ (grown_alloc hgW (.cells #[.int .i64 ((k : Int) / 10), .int .i64 ((k : Int) % 10), .int .i64 f2, .int .i64 f0] 97))
          have hsw1 : w.heap.size ≤ w1.heap.size := by have := hgW.size; omega
          clear hgW hg1 HOWG
          go_wp2_with (first | (at_builtin; refine wpList_append_own _ rfl (.tmp 44) (.tmp 50) 94 rfl (w.heap.size) 97 i0 (.agg #[.int .i64 0, .int .i64 0, .int .i64 0, .int .i64 0]) 4 32 Try.underlying94 hi0 hz0 hz1 hz2 rfl (by decide) _ _ _ rfl how1 _ 1 1 [.int .i64 ((k : Int) / 10), .int .i64 ((k : Int) % 10), .int .i64 f2, .int .i64 f0] rfl rfl ?c1 ?c2 ?c3 ?c4 ?c5 ?_))
          case c1 => intro j u hj; exact news_at1 hj
          case c2 => intro u hu; simp at hu; rcases hu with h | h | h | h <;> subst h <;> rfl
          case c3 => unfold maxLen; omega
          case c4 => omega
          case c5 => simp; omega
          · intro v' w3 hown3 hg3 _
            have HO3 := hid hown3
            have HG3 := hid hg3
            clear hown3 hg3
            go_wp2_with fail
            go_roundw
            case rel =>
              obtain ⟨q1, q2, q3⟩ := HFI.out _ _ _ (grown_alloc HGW.out _) HO3.out HG3.out
              exact ⟨k + 1, by omega, by go_num, q1, q2, q3⟩
            case measure => simp [intOf]; omega
      | some p =>
        rw [hw] at m0 m1 m2
        have hsw : seenT S f k = p.map fun x => (x, S.tm k) := by unfold seenT; rw [hw]
        cases p with
        | none =>
          simp only [wMade, wFilled, wVal, Option.isSome_some] at m0 m1 m2
          have HSK := hid (hskip.out hsw)
          clear hw hsw hskip HFIN HF0 HF1 HF2 HTK HNF HOWG
          go_wp2_with fail
          go_roundw
          case rel =>
            obtain ⟨q1, q2, q3⟩ := HSK.out _ (grown_alloc (grown_refl wr none) _)
            exact ⟨k + 1, by omega, by go_num, q1, q2, q3⟩
          case measure => simp [intOf]; omega
        | some v =>
          simp only [wMade, wFilled, wVal, Option.isSome_some] at m0 m1 m2
          have HFI := hid (fun W w3 v' => HFIN.out v tk W w3 v' (by rw [hsw, HTK.out]; rfl))
          clear hw hsw hskip HFIN HF0 HF1 HF2 HTK
          go_wp2_with fail
          go_at_call 68
          refine (HNF.out _ _ _).mono ?_
          rintro e w1 ⟨rfl, hg1⟩
          have hgW := grown_trans (grown_alloc (grown_refl wr none) (.cells #[.bool true, .int .i64 v] 76)) hg1
          have HGW := hid hgW
          have how1 := HOWG.out _ (grown_alloc hgW (.cells #[.int .i64 ((k : Int) / 10), .int .i64 ((k : Int) % 10), .int .i64 v, .int .i64 tk] 97))
          have hsw1 : w.heap.size ≤ w1.heap.size := by have := hgW.size; omega
          clear hgW hg1 HOWG
          go_wp2_with (first | (at_builtin; refine wpList_append_own _ rfl (.tmp 44) (.tmp 50) 94 rfl (w.heap.size) 97 i0 (.agg #[.int .i64 0, .int .i64 0, .int .i64 0, .int .i64 0]) 4 32 Try.underlying94 hi0 hz0 hz1 hz2 rfl (by decide) _ _ _ rfl how1 _ 1 1 [.int .i64 ((k : Int) / 10), .int .i64 ((k : Int) % 10), .int .i64 v, .int .i64 tk] rfl rfl ?c1 ?c2 ?c3 ?c4 ?c5 ?_))
          case c1 => intro j u hj; exact news_at1 hj
          case c2 => intro u hu; simp at hu; rcases hu with h | h | h | h <;> subst h <;> rfl
          case c3 => unfold maxLen; omega
          case c4 => omega
          case c5 => simp; omega
          · intro v' w3 hown3 hg3 _
            have HO3 := hid hown3
            have HG3 := hid hg3
            clear hown3 hg3
            go_wp2_with fail
            go_roundw
            case rel =>
              obtain ⟨q1, q2, q3⟩ := HFI.out _ _ _ (grown_alloc HGW.out _) HO3.out HG3.out
              exact ⟨k + 1, by omega, by go_num, q1, q2, q3⟩
            case measure => simp [intOf]; omega
    · have hk60 : k = 60 := by omega
      subst hk60
      clear hg hb0
      go_wp2_with fail
      go_ret
      exact ⟨_, rfl, HOW.out, HG.out⟩

end Go.Proofs.Ythlhbjnkohinmaa
