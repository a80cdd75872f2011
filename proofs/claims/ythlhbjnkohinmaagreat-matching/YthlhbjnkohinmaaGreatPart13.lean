import Derived.Test.YthlhbjnkohinmaaGreatPart12
import Derived.Test.YthlhbjnkohinmaaGreatRefRules
import Derived.Laws.AppendOwnNone
/- The document's instantiations: over any condition, and those of all rules. -/
namespace Go.Proofs.YthlhbjnkohinmaaGreat
open Go.RowKit

theorem pat_ter {s : ByteArray} {i : Nat} (h : patLen s i = 3) : clsB (bt s i) = true ∧ terB (bt s (i + 1)) = true ∧ terB (bt s (i + 2)) = true := by
  unfold patLen at h
  by_cases a : clsB (bt s i) = true
  · by_cases b : terB (bt s (i + 1)) = true
    · by_cases c : terB (bt s (i + 2)) = true
      · exact ⟨a, b, c⟩
      · simp [a, b, c] at h
    · simp [a, b] at h
  · simp [a] at h
theorem tst_sim {s : ByteArray} {i : Nat} (h : tstLen s i = 3) : simB (bt s i) = true ∧ sgnB (bt s (i + 1)) = true ∧ simB (bt s (i + 2)) = true := by
  unfold tstLen at h
  by_cases a : simB (bt s i) = true
  · by_cases b : sgnB (bt s (i + 1)) = true
    · by_cases c : simB (bt s (i + 2)) = true
      · exact ⟨a, b, c⟩
      · simp [a, b, c] at h
    · simp [a, b] at h
  · simp [a] at h

theorem on_any (s : ByteArray) (F : List PFact) (l : List In) (p : Nat) (la fa : Option Addr) (lc fc B B2 : Nat) (w : World) (hs : s.size ≤ 400) (hok : cdOk s p = true) (hll : l.length ≤ 1000000000) (hF : FOk F) (hFl : F.length ≤ 60) (hl : ∀ i ∈ l, InOk F i ∧ i.facts.length ≤ 100)
    (hrow : w.ownsRow B 136 6 (.slice la l.length lc) l.length (dCells l)) (hfrow : w.ownsRow B2 9 1 (.slice fa F.length fc) F.length (fxCells F)) :
    Calls Tryz.prog 115 #[.slice la l.length lc, .string (s.extract p (p + cdLen s p)), .slice fa F.length fc] w fun e w' => ∃ v, e = .returned v ∧ w'.ownsRow w.heap.size 136 6 v (onC (-1) s F l p).length (dCells (onC (-1) s F l p)) ∧ w.grownBy w' none := by
  obtain ⟨hc3, hcs, _⟩ := cd_pos hok
  have hsz : (s.extract p (p + cdLen s p)).size = cdLen s p := by rw [size_ex hcs]; omega
  have hb : ∀ k, k < cdLen s p → bt (s.extract p (p + cdLen s p)) k = bt s (p + k) := fun k hk => text_at hcs hk
  have hle : cdLen s p ≤ 400 := by omega
  unfold cdOk at hok
  by_cases h33 : bt s p = 33
  · simp only [h33, if_true] at hok
    have hpl : patLen s (p + 1) = 3 := by simpa using hok
    have h4 : cdLen s p = 4 := by unfold cdLen; rw [if_pos h33]; omega
    obtain ⟨_, q1, q2⟩ := pat_ter hpl
    have hon : onC (-1) s F l p = l.filter fun i => noneB F i.env (bt s (p + 1)) (bt s (p + 2)) (bt s (p + 3)) := by unfold onC; rw [if_pos h33]
    rw [hon]
    have hpa : PatAt ((s.extract p (p + cdLen s p)).extract 1 4) (bt s (p + 1)) (bt s (p + 2)) (bt s (p + 3)) := by
      rw [ex_ex hcs (by omega)]
      refine ⟨by rw [size_ex (by omega)]; omega, ?_, ?_, ?_⟩
      · rw [bt_ex (by omega) (by omega)]
      · rw [bt_ex (by omega) (by omega)]
      · rw [bt_ex (by omega) (by omega)]
    refine on_filter (fun i => noneB F i.env (bt s (p + 1)) (bt s (p + 2)) (bt s (p + 3))) l _ la fa lc F.length fc B w (by omega) (by omega) (by rw [hb 0 (by omega)]; rw [Nat.add_zero, h33]; rfl) hll hrow (hid (fun k hk W hW => ?_))
    exact eneg_any l[k].env _ _ _ F _ fa fc B2 W (by omega) (by rw [hb 0 (by omega)]; exact h33) hpa hF hFl q1 q2 (hl _ (List.getElem_mem hk)).1.env (own_kept hfrow hW (fun g hg => by cases hg))
  · simp only [h33, if_false] at hok
    by_cases hc : clsB (bt s p) = true
    · rw [if_pos hc] at hok
      have hpl : patLen s p = 3 := by simpa using hok
      have h3 : cdLen s p = 3 := by unfold cdLen; rw [if_neg h33, if_pos hc]; exact hpl
      obtain ⟨_, q1, q2⟩ := pat_ter hpl
      have hon : onC (-1) s F l p = l.flatMap (onP F (bt s p) (bt s (p + 1)) (bt s (p + 2))) := by unfold onC; rw [if_neg h33, if_pos hc]
      rw [hon]
      exact on_pat F _ _ _ l _ la fa lc fc B B2 w ⟨by omega, hb 0 (by omega), hb 1 (by omega), hb 2 (by omega)⟩ (by omega) hc q1 q2 hll hF hFl hl hrow hfrow
    · rw [if_neg hc] at hok
      have htl : tstLen s p = 3 := by simpa using hok
      have h3 : cdLen s p = 3 := by unfold cdLen; rw [if_neg h33, if_neg hc]; exact htl
      obtain ⟨q0, q1, q2⟩ := tst_sim htl
      have hon : onC (-1) s F l p = l.filter fun i => tstB (bt s (p + 1)) (ofE (-1) i.env (bt s p)) (ofE (-1) i.env (bt s (p + 2))) := by unfold onC; rw [if_neg h33, if_neg hc]
      rw [hon]
      have hb0 : bt (s.extract p (p + cdLen s p)) 0 = bt s p := hb 0 (by omega)
      have hb1 := hb 1 (by omega)
      have hb2 := hb 2 (by omega)
      refine on_filter (fun i => tstB (bt s (p + 1)) (ofE (-1) i.env (bt s p)) (ofE (-1) i.env (bt s (p + 2)))) l _ la fa lc F.length fc B w (by omega) (by omega) (by rw [hb0]; simpa using hc) hll hrow (hid (fun k hk W _ => ?_))
      have := etest_any l[k].env (s.extract p (p + cdLen s p)) fa F.length fc W (by omega) (by omega) (by rw [hb0]; exact q0) (by rw [hb1]; exact q1) (by rw [hb2]; exact q2)
      rw [hb0, hb1, hb2] at this
      exact this

/-! What there is behind the first conditions of a rule. -/
def behind (z : Int) (s : ByteArray) (F : List PFact) (r : Nat) (L : List Nat) (k : Nat) : List In := (L.take k).foldl (onC z s F) [In.start r]
theorem behind_succ {z : Int} {s : ByteArray} {F : List PFact} {r : Nat} {L : List Nat} {k : Nat} (hk : k < L.length) : behind z s F r L (k + 1) = onC z s F (behind z s F r L k) L[k] := by
  unfold behind
  rw [List.take_succ_eq_append_getElem hk, List.foldl_append]
  rfl
theorem behind_all {z : Int} {s : ByteArray} {F : List PFact} {r : Nat} {L : List Nat} : behind z s F r L L.length = instR z s F r L := by
  unfold behind instR
  rw [List.take_length]
theorem onP_facts {F : List PFact} {c t1 t2 : Int} {i j : In} (h : j ∈ onP F c t1 t2 i) : j.facts.length = i.facts.length + 1 ∧ j.rule = i.rule := by
  unfold onP at h
  obtain ⟨q, _, hm⟩ := List.mem_filterMap.mp h
  cases hg : goP i.env c t1 t2 q with
  | none => rw [hg] at hm; cases hm
  | some e =>
    rw [hg] at hm
    simp only [Option.map_some, Option.some.injEq] at hm
    rw [← hm]
    simp
theorem onC_facts {z : Int} {s : ByteArray} {F : List PFact} {l : List In} {p n r : Nat} (hl : ∀ i ∈ l, i.facts.length ≤ n ∧ i.rule = r) : ∀ j ∈ onC z s F l p, j.facts.length ≤ n + 1 ∧ j.rule = r := by
  intro j hj
  unfold onC at hj
  split at hj
  · have := hl j (List.mem_filter.mp hj).1; exact ⟨by omega, this.2⟩
  · split at hj
    · obtain ⟨i, hi, hm⟩ := List.mem_flatMap.mp hj
      have h1 := onP_facts hm
      have h2 := hl i hi
      exact ⟨by omega, by rw [h1.2, h2.2]⟩
    · have := hl j (List.mem_filter.mp hj).1; exact ⟨by omega, this.2⟩
theorem behind_ok {z : Int} {s : ByteArray} {F : List PFact} (hF : FOk F) (hFl : F.length ≤ 60) {r : Nat} {L : List Nat} : ∀ k, k ≤ L.length → (behind z s F r L k).length ≤ 60 ^ k ∧ ∀ i ∈ behind z s F r L k, InOk F i ∧ i.facts.length ≤ k ∧ i.rule = r
  | 0, _ => by
    refine ⟨by simp [behind], fun i hi => ?_⟩
    simp [behind] at hi
    subst hi
    exact ⟨start_ok F r, by simp [In.start], rfl⟩
  | k + 1, hk => by
    obtain ⟨h1, h2⟩ := behind_ok hF hFl (z := z) (s := s) (r := r) (L := L) k (by omega)
    rw [behind_succ (by omega)]
    refine ⟨?_, fun i hi => ⟨onC_ok hF (fun j hj => (h2 j hj).1) _ i hi, onC_facts (fun j hj => (h2 j hj).2) i hi⟩⟩
    have := onC_len z s F hFl (behind z s F r L k) (L[k]'(by omega))
    rw [Nat.pow_succ]
    exact Nat.le_trans this (Nat.mul_le_mul_right 60 h1)

end Go.Proofs.YthlhbjnkohinmaaGreat

/- The document's instantiations: those of all rules. -/
namespace Go.Proofs.YthlhbjnkohinmaaGreat
open Go.RowKit

theorem instR_len (z : Int) (s : ByteArray) {F : List PFact} (hF : FOk F) (hFl : F.length ≤ 60) (r : Nat) {L : List Nat} (hL : L.length ≤ 5) : (instR z s F r L).length ≤ 777600000 := by
  rw [← behind_all]
  have h1 := (behind_ok hF hFl (z := z) (s := s) (r := r) (L := L) L.length (Nat.le_refl _)).1
  have h2 : 60 ^ L.length ≤ 60 ^ 5 := Nat.pow_le_pow_right (by omega) hL
  have h3 : (60 : Nat) ^ 5 = 777600000 := by decide
  omega
theorem instN_len (z : Int) (s : ByteArray) {F : List PFact} (hF : FOk F) (hFl : F.length ≤ 60) {R : List RuleP} (hR : ∀ k (h : k < R.length), R[k].2.1.length ≤ 5) : ∀ n, n ≤ R.length → (instN z s F R n).length ≤ n * 777600000
  | 0, _ => by simp [instN]
  | n + 1, hn => by
    have ih := instN_len z s hF hFl hR n (by omega)
    rw [instN_succ, List.length_append]
    have e : R.getD n (0, [], []) = R[n] := by simp [List.getD, List.getElem?_eq_getElem (show n < R.length by omega)]
    have := instR_len z s hF hFl n (hR n (by omega))
    rw [e]
    omega
theorem dCells_one (l : List In) : ∀ u ∈ dCells l, u.oneCell' = true := by
  intro u hu
  unfold dCells at hu
  obtain ⟨i, _, h⟩ := List.mem_flatMap.mp hu
  simp at h
  rcases h with rfl | rfl | rfl | rfl | rfl | rfl <;> rfl
theorem dCells_app (l m : List In) : dCells (l ++ m) = dCells l ++ dCells m := by simp [dCells]
theorem dCells_len (l : List In) : (dCells l).length = l.length * 6 := by
  induction l with
  | nil => rfl
  | cons i l ih =>
    have e : dCells (i :: l) = .int .i64 i.rule :: .int .i64 (eI i.env 0) :: .int .i64 (eI i.env 1) :: .int .i64 (eI i.env 2) :: .int .i64 (eI i.env 3) :: .string (factsT i.facts) :: dCells l := rfl
    rw [e]
    simp [ih]
    omega
/-- Where the cells of an owned row lie. -/
theorem own_news {w : World} {base : Nat} {e : TypeId} {size : Nat} {g m c n : Nat} {xs : List Value} (h : w.ownsRow base e size (.slice (some ⟨g, 0, none⟩) m c) n xs) : ∀ j u, xs[j]? = some u → w.cell? ((⟨g, 0, none⟩ : Addr).add j) = some u := by
  intro j u hj
  by_cases hn : 0 < n
  · obtain ⟨g', e1, _, _, _, hcell⟩ := own_cell h hn
    simp only [Option.some.injEq, Addr.mk.injEq, and_true] at e1
    rw [e1]
    have := hcell j u hj
    have hadd : (⟨g', 0, none⟩ : Addr).add j = ⟨g', j, none⟩ := by unfold Addr.add; split <;> simp_all
    rw [hadd]
    exact this
  · have h1 := h.1
    have : n = 0 := by omega
    subst this
    simp at h1
    rw [h1] at hj
    simp at hj
theorem own_one {w : World} {e : TypeId} {base size : Nat} {cs : List Value} (hb : base ≤ w.heap.size) (hs : cs.length = size) : (w.alloc (.cells cs.toArray e)).ownsRow base e size (.slice (some ⟨w.heap.size, 0, none⟩) 1 1) 1 cs :=
  ⟨by simp [hs], .inr ⟨w.heap.size, 1, cs.toArray, rfl, hb, heap_alloc_new w _, Nat.le_refl 1, by unfold maxLen; omega, by simp [hs], by simp [← hs]⟩⟩

set_option maxRecDepth 20000 in
set_option maxHeartbeats 4000000 in
theorem all_any (s : ByteArray) (R : List RuleP) (F : List PFact) (ra fa : Option Addr) (rc fc : Nat) (xs : List Value) (w : World) (hs : s.size ≤ 400) (hR : ∀ r ∈ R, RuleOk s r) (hR9 : R.length ≤ 9) (hR5 : ∀ k (h : k < R.length), R[k].2.1.length ≤ 5) (hF : FOk F) (hFl : F.length ≤ 60)
    (hrow : w.ownsRow 0 155 3 (.slice ra R.length rc) R.length xs) (hpar : PartsR w 0 s R xs) (hfrow : w.ownsRow 0 9 1 (.slice fa F.length fc) F.length (fxCells F)) :
    Calls Tryz.prog 91 #[.slice ra R.length rc, .slice fa F.length fc] w fun e w' => ∃ v, e = .returned v ∧ w'.ownsRow w.heap.size 136 6 v (instN (-1) s F R R.length).length (dCells (instN (-1) s F R R.length)) ∧ w.grownBy w' none := by
  obtain ⟨i0, hi0, hz0, hz1, hz2⟩ := info_parts Tryz.info136
  have HROW := hid hrow
  have HPAR := hid hpar
  have HFR := hid hfrow
  have HR5 := hid hR5
  have HILEN := hid (instN_len (-1) s hF hFl hR5)
  have HRL := hid (fun r (L : List Nat) (h : L.length ≤ 5) => instR_len (-1) s hF hFl r h)
  have HON : Hid (∀ (i : Nat) (hi : i < R.length) (k : Nat) (hk : k < R[i].2.1.length) (la : Option Addr) (lc : Nat) (W : World), w.grownBy W none → W.ownsRow w.heap.size 136 6 (.slice la (behind (-1) s F i R[i].2.1 k).length lc) (behind (-1) s F i R[i].2.1 k).length (dCells (behind (-1) s F i R[i].2.1 k)) →
      Calls Tryz.prog 115 #[.slice la (behind (-1) s F i R[i].2.1 k).length lc, .string (s.extract R[i].2.1[k] (R[i].2.1[k] + cdLen s R[i].2.1[k])), .slice fa F.length fc] W fun e w' => ∃ v, e = .returned v ∧ w'.ownsRow W.heap.size 136 6 v (behind (-1) s F i R[i].2.1 (k + 1)).length (dCells (behind (-1) s F i R[i].2.1 (k + 1))) ∧ W.grownBy w' none) := hid (by
    intro i hi k hk la lc W hW ho
    have hb := behind_ok hF hFl (z := -1) (s := s) (r := i) (L := R[i].2.1) k (by omega)
    have h5 := hR5 i hi
    have hp : 60 ^ k ≤ 60 ^ 5 := Nat.pow_le_pow_right (by omega) (by omega)
    have h3 : (60 : Nat) ^ 5 = 777600000 := by decide
    rw [behind_succ hk]
    exact on_any s F _ R[i].2.1[k] la fa lc fc w.heap.size 0 W hs (cds_all (hR _ (List.getElem_mem hi)).conds rfl _ (List.getElem_mem hk)) (by omega) hF hFl (fun x hx => ⟨(hb.2 x hx).1, by have := (hb.2 x hx).2.1; omega⟩) ho (own_kept hfrow hW (fun g hg => by cases hg)))
  clear hrow hpar hfrow hR hF hR5
  go_enter Tryz.func91, Tryz.ntmps91
  go_wp2_with fail
  go_loopw [5, 6] (fun v t wr => ∃ i : Nat, i ≤ R.length ∧ t = .int .i64 i ∧ wr.ownsRow w.heap.size 136 6 v (instN (-1) s F R i).length (dCells (instN (-1) s F R i)) ∧ w.grownBy wr none) (fun _ t _ => R.length - (intOf t).toNat)
  case atStart => exact ⟨0, by omega, rfl, World.ownsRow_nil _ _ _ _, grown_refl _ _⟩
  case round =>
    obtain ⟨i, hi, rfl, hown, hg⟩ := hrel
    generalize wr = W1 at *
    have HG := hid hg
    have HOW := hid hown
    by_cases hlt : i < R.length
    · obtain ⟨v0, hv0⟩ : ∃ v0, v0 = (R[i].2.1) := ⟨_, rfl⟩
      have HONI := hid (HON.out i hlt)
      have hL5 := HR5.out i hlt
      have HNS := hid (instN_succ (-1) s F R i)
      have hnl := HILEN.out i (by omega)
      have hml := HRL.out i R[i].2.1 hL5
      have egd : R.getD i (0, [], []) = R[i] := by simp [List.getD, List.getElem?_eq_getElem hlt]
      rw [egd] at HNS
      obtain ⟨a1, m1, c1, a2, m2, c2, x0, x1, x2, o1, o2⟩ := PartsR_at R xs HPAR.out i hlt
      obtain ⟨gr, hra, _, _, hgr, hrcell⟩ := own_cell HROW.out (by omega)
      subst hra
      have HRC : Hid (∀ W, w.grownBy W none → W.cell? ⟨gr, i * 3 + 1, none⟩ = some (.slice a1 m1 c1)) := hid (fun W hW => grown_cell hW (hrcell _ _ x1))
      have em1 := own_len o1
      subst em1
      have HCT : Hid (∀ k (hk : k < R[i].2.1.length) W, w.grownBy W none → ∃ gc, a1 = some ⟨gc, 0, none⟩ ∧ W.cell? ⟨gc, k, none⟩ = some (.string (s.extract R[i].2.1[k] (R[i].2.1[k] + cdLen s R[i].2.1[k])))) := hid (fun k hk W hW => by
        obtain ⟨gc, e, _, _, _, hcell⟩ := own_cell o1 (by omega)
        refine ⟨gc, e, grown_cell hW (hcell k _ ?_)⟩
        simp [cdTexts, hk])
      have HBA := hid (behind_all (z := -1) (s := s) (F := F) (r := i) (L := R[i].2.1))
      rw [← hv0] at HONI HNS HCT HBA hL5 hml HRC
      have HLK := hid hv0
      obtain ⟨av, mv, cv, rfl⟩ := own_slice hown
      have em := own_len hown
      subst em
      have hsz := hg.size
      have HST : Hid ((W1.alloc (.cells #[.int .i64 i, .int .i64 (-1), .int .i64 (-1), .int .i64 (-1), .int .i64 (-1), .string ByteArray.empty] 136)).ownsRow w.heap.size 136 6 (.slice (some ⟨W1.heap.size, 0, none⟩) 1 1) (behind (-1) s F i v0 0).length (dCells (behind (-1) s F i v0 0))) := hid (own_one (w := W1) (cs := [.int .i64 i, .int .i64 (-1), .int .i64 (-1), .int .i64 (-1), .int .i64 (-1), .string ByteArray.empty]) hsz rfl)
      clear hv0 x0 x1 x2 o1 o2 hrcell hown hg egd
      go_wp2_with fail
      have HGA : Hid (W1.grownBy (W1.alloc (.cells #[.int .i64 i, .int .i64 (-1), .int .i64 (-1), .int .i64 (-1), .int .i64 (-1), .string ByteArray.empty] 136)) none) := hid (grown_alloc (grown_refl _ _) _)
      go_loopw [7, 8] (fun v t wr2 => ∃ k : Nat, k ≤ v0.length ∧ t = .int .i64 k ∧ wr2.ownsRow w.heap.size 136 6 v (behind (-1) s F i v0 k).length (dCells (behind (-1) s F i v0 k)) ∧ W1.grownBy wr2 none) (fun _ t _ => v0.length - (intOf t).toNat)
      case atStart => exact ⟨0, by omega, rfl, HST.out, HGA.out⟩
      case round =>
        obtain ⟨k, hk, rfl, hown, hg2⟩ := hrel
        have HG2 := hid hg2
        have HOW2 := hid hown
        have q1 := HRC.out _ (grown_trans HG.out hg2)
        obtain ⟨lv, lm, lcv, rfl⟩ := own_slice hown
        have em := own_len hown
        subst em
        by_cases hltk : k < v0.length
        · obtain ⟨gc, rfl, q2⟩ := HCT.out k hltk _ (grown_trans HG.out hg2)
          have HC := hid (HONI.out k hltk lv lcv _ (grown_trans HG.out hg2) hown)
          obtain ⟨ct, hct⟩ : ∃ ct, ct = s.extract v0[k] (v0[k] + cdLen s v0[k]) := ⟨_, rfl⟩
          rw [← hct] at q2 HC
          have hsz2 := (grown_trans HG.out hg2).size
          clear hct hown hg2
          go_wp2_with fail
          go_at_call 115
          refine HC.out.mono ?_
          rintro er w1 ⟨v1, rfl, ho1, hg1⟩
          have HO1 := hid (own_mono ho1 hsz2)
          have HG1 := hid hg1
          clear ho1 hg1
          go_wp2_with fail
          go_roundw
          case rel => exact ⟨k + 1, by omega, by go_num, HO1.out, grown_trans HG2.out HG1.out⟩
          case measure => simp [intOf]; omega
        · have ek : k = v0.length := by omega
          subst ek
          rw [HBA.out] at HOW2 hown ⊢
          have how2 := own_kept HOW.out hg2 (fun g hg => by cases hg)
          have HAPP : Hid (dCells (instN (-1) s F R (i + 1)) = dCells (instN (-1) s F R i) ++ dCells (instR (-1) s F i v0)) := hid (by rw [HNS.out, dCells_app])
          have HAPL : Hid ((instN (-1) s F R (i + 1)).length = (instN (-1) s F R i).length + (instR (-1) s F i v0).length) := hid (by rw [HNS.out, List.length_append])
          have hdl := dCells_len (instR (-1) s F i v0)
          have HD1 := hid (dCells_one (instR (-1) s F i v0))
          obtain ⟨IR, hIR⟩ : ∃ IR, IR = instR (-1) s F i v0 := ⟨_, rfl⟩
          rw [← hIR] at hown HAPP HAPL hdl HD1 hml HOW2 ⊢
          obtain ⟨IN, hIN⟩ : ∃ IN, IN = instN (-1) s F R i := ⟨_, rfl⟩
          rw [← hIN] at how2 HAPP HAPL hnl HOW ⊢
          have hsz2 := (grown_trans HG.out hg2).size
          have HOWN2 := hid how2
          have HOWN := hid hown
          clear hIR hIN hg2
          cases lv with
          | none =>
            have hz : IR.length = 0 ∧ lcv = 0 := by
              obtain ⟨_, h2⟩ := hown
              rcases h2 with ⟨e, h3⟩ | ⟨_, _, _, e, _⟩
              · simp only [Value.slice.injEq] at e
                exact ⟨e.2.1, e.2.2⟩
              · simp at e
            have hIRn : IR = [] := List.length_eq_zero_iff.mp hz.1
            have HO3 : Hid (wr.ownsRow w.heap.size 136 6 (.slice av IN.length cv) (instN (-1) s F R (i + 1)).length (dCells (instN (-1) s F R (i + 1)))) := hid (by
              rw [HAPP.out, HAPL.out, hIRn]
              simpa [dCells] using HOWN2.out)
            obtain ⟨hz1', hz2'⟩ := hz
            subst hz2'
            rw [hz1']
            clear hown hdl
            go_wp2_with (first | (at_builtin; refine wpList_append_own_none rfl (.tmp 40) (.tmp 41) 130 rfl w.heap.size 136 i0 6 Tryz.underlying130 hi0 _ _ _ rfl how2 rfl ?_))
            go_roundw
            case rel => exact ⟨i + 1, by omega, by go_num, HO3.out, grown_trans HG.out HG2.out⟩
            case measure => simp [intOf]; omega
          | some la =>
            obtain ⟨gs, hgs⟩ : ∃ gs, la = ⟨gs, 0, none⟩ := by
              obtain ⟨_, h2⟩ := hown
              rcases h2 with ⟨e, _⟩ | ⟨g', _, _, e, _⟩
              · simp at e
              · simp only [Value.slice.injEq, Option.some.injEq] at e
                exact ⟨g', e.1⟩
            subst hgs
            go_wp2_with (first | (at_builtin; refine wpList_append_own _ rfl (.tmp 40) (.tmp 41) 130 rfl (w.heap.size) 136 i0 (.agg #[.int .i64 0, .int .i64 0, .int .i64 0, .int .i64 0, .int .i64 0, .string ByteArray.empty]) 6 56 Tryz.underlying130 hi0 hz0 hz1 hz2 rfl (by decide) _ _ _ rfl how2 _ IR.length lcv (dCells IR) rfl hdl (own_news HOWN.out) HD1.out ?c3 ?c4 hsz2 ?_))
            case c3 => unfold maxLen; omega
            case c4 => omega
            · intro v' w3 hown3 hg3 _
              have HO3 : Hid (w3.ownsRow w.heap.size 136 6 v' (instN (-1) s F R (i + 1)).length (dCells (instN (-1) s F R (i + 1)))) := hid (by rw [HAPP.out, HAPL.out]; exact hown3)
              have HG3 : Hid (w.grownBy w3 none) := hid (grown_own2 (grown_trans HG.out HG2.out) hg3 (fun g hg => (HOWN2.out.lt g hg).1))
              clear hown3 hg3
              go_wp2_with fail
              go_roundw
              case rel => exact ⟨i + 1, by omega, by go_num, HO3.out, HG3.out⟩
              case measure => simp [intOf]; omega
    · have e : i = R.length := by omega
      subst e
      clear hown hg
      go_wp2_with fail
      go_ret
      exact ⟨_, rfl, HOW.out, HG.out⟩

end Go.Proofs.YthlhbjnkohinmaaGreat

/- The document's instantiations: how they are written, and how late they are. -/
namespace Go.Proofs.YthlhbjnkohinmaaGreat
open Go.RowKit

def instV (i : In) : Value := .agg #[.int .i64 i.rule, .int .i64 (eI i.env 0), .int .i64 (eI i.env 1), .int .i64 (eI i.env 2), .int .i64 (eI i.env 3), .string (factsT i.facts)]
def writT (i : In) : ByteArray := strOfNums [48 + (i.rule : Int)] ++ factsT i.facts

set_option maxRecDepth 20000 in
set_option maxHeartbeats 1000000 in
theorem written_any (i : In) (w : World) (hr : i.rule ≤ 9) (hf : i.facts.length ≤ 100) :
    Calls Tryz.prog 64 #[instV i] w fun e w' => e = .returned (.string (writT i)) ∧ w.grownBy w' none := by
  have hz : (factsT i.facts).size ≤ 300 := by rw [factsT_size]; omega
  unfold instV writT
  obtain ⟨ru, hru⟩ : ∃ ru : Int, ru = i.rule := ⟨_, rfl⟩
  obtain ⟨ft, hft⟩ : ∃ ft, ft = factsT i.facts := ⟨_, rfl⟩
  rw [← hft] at hz ⊢
  have h0 : 0 ≤ ru := by omega
  have h9 : ru ≤ 9 := by omega
  rw [← hru]
  generalize eI i.env 0 = e0
  generalize eI i.env 1 = e1
  generalize eI i.env 2 = e2
  generalize eI i.env 3 = e3
  clear hru hft hr hf
  have h1 : (48 : Int) + ru ≤ 255 := by omega
  have hcv := run_convert_bytes_arg (P := Tryz.prog) ((w.alloc (.cells #[.int .i64 ru, .int .i64 e0, .int .i64 e1, .int .i64 e2, .int .i64 e3, .string ft] 136)).alloc (.cells #[.int .u8 (48 + ru)] 5)) 160 5 Tryz.underlying160 Tryz.underlying5 (w.heap.size + 1) 0 1 1 [48 + ru] rfl (by
    intro i hi
    rw [World.cell?_alloc_at _ _ _ _ (by simp)]
    match i, hi with
    | 0, _ => rfl) 9 Tryz.underlying9
  have hs1 : (strOfNums [48 + ru]).size = 1 := rfl
  obtain ⟨nt, hnt⟩ : ∃ nt, nt = strOfNums [48 + ru] := ⟨_, rfl⟩
  rw [← hnt] at hcv hs1 ⊢
  clear hnt
  go_enter Tryz.func64, Tryz.ntmps64
  go_wp2
  go_ret
  exact ⟨rfl, grown_alloc (grown_alloc (grown_refl _ _) _) _⟩

/-! The bytes of facts. -/
theorem joined_data (l : List ByteArray) : ∀ z : ByteArray, (l.foldl (· ++ ·) z).data.toList = z.data.toList ++ l.flatMap fun x => x.data.toList := by
  induction l with
  | nil => intro z; simp
  | cons x l ih => intro z; rw [List.foldl_cons, ih]; simp [ByteArray.data_append]
theorem factsT_data (l : List PFact) : (factsT l).data.toList = l.flatMap fun q => (factP q.1 q.2.1).data.toList := by
  unfold factsT joined
  rw [joined_data]
  simp [List.flatMap_map]
theorem flat3_drop {α β : Type} {f : α → List β} {m : Nat} (hf : ∀ a, (f a).length = m) : ∀ (l : List α) (j : Nat), (l.flatMap f).drop (j * m) = (l.drop j).flatMap f
  | l, 0 => by simp
  | [], j + 1 => by simp
  | a :: l, j + 1 => by
    rw [List.flatMap_cons, List.drop_succ_cons, ← flat3_drop hf l j, Nat.add_mul, Nat.one_mul, Nat.add_comm, ← List.drop_drop, List.drop_left' (hf a)]
theorem factsT_cell (l : List PFact) (j : Nat) (hj : j < l.length) : (factsT l).extract (j * 3) (j * 3 + 2) = cellT l[j].1 := by
  apply ByteArray.ext
  apply Array.toList_inj.mp
  rw [ByteArray.data_extract, Array.toList_extract, factsT_data, List.extract_eq_take_drop]
  rw [flat3_drop (m := 3) (fun _ => rfl), List.drop_eq_getElem_cons hj, List.flatMap_cons]
  simp only [Nat.add_sub_cancel_left]
  rw [List.take_append_of_le_length (by show 2 ≤ 3; omega)]
  rfl

/-- How late the latest of some facts is, as the document counts. -/
def latD (com : List (List Wr)) (S : Ses) (l : List PFact) : Int := l.foldl (fun n q => if (seesF com S (cellT q.1)).2 > n then (seesF com S (cellT q.1)).2 else n) (-(com.length : Int) - 2)
theorem latD_snoc (com : List (List Wr)) (S : Ses) (l : List PFact) (j : Nat) (hj : j < l.length) : latD com S (l.take (j + 1)) = if (seesF com S (cellT l[j].1)).2 > latD com S (l.take j) then (seesF com S (cellT l[j].1)).2 else latD com S (l.take j) := by
  unfold latD
  rw [List.take_succ_eq_append_getElem hj, List.foldl_append]
  rfl

end Go.Proofs.YthlhbjnkohinmaaGreat

/- The document's instantiations: the latest of its facts. -/
namespace Go.Proofs.YthlhbjnkohinmaaGreat
open Go.RowKit

/-- What is known of the numbers of a session, and of the commits. -/
structure SeeOk (com : List (List Wr)) (S : Ses) : Prop where
  snap : 0 ≤ S.snap
  snapLe : S.snap ≤ com.length
  comLen : com.length ≤ 9223372036854775000
  each : ∀ l ∈ com, l.length ≤ 9223372036854775807
  wrLen : S.wr.length ≤ 9223372036854775806

set_option maxRecDepth 20000 in
set_option maxHeartbeats 2000000 in
theorem latest_any (y : Nat) (com : List (List Wr)) (S : Ses) (p : Value) (a : Option Addr) (cp : Nat) (cs : List Value) (fc fp : List Nat) (i : In) (w : World)
    (hE : EngOk y com S p a cp cs fc fp w) (hk : SeeOk com S) (hf : i.facts.length ≤ 100) :
    Calls Tryz.prog 116 #[.pointer (some ⟨y, 0, none⟩), p, instV i] w fun e w' => e = .returned (.int .i64 (latD com S i.facts)) ∧ w.grownBy w' none := by
  have hcl := hk.comLen
  have HSEE : Hid (∀ (c : ByteArray) (W : World), EngOk y com S p a cp cs fc fp W → Calls Tryz.prog 85 #[.pointer (some ⟨y, 0, none⟩), p, .string c] W fun e w' => e = .returned (.tuple #[.int .i64 (seesF com S c).1, .int .i64 (seesF com S c).2]) ∧ ∃ n, w' = W.drewN n) :=
    hid (fun c W h => sees_any y com cs fc S p fp c a _ cp W h.cell h.row h.com h.ses hk.snap hk.snapLe (by omega) hk.each hk.wrLen)
  have HE := hid hE
  have c2 := hE.cell
  have hyl := World.block_lt_of_cell? w _ c2
  have hyz : y ≠ w.heap.size := by simp at hyl; omega
  have hyl2 : y < w.heap.size := by simpa using hyl
  have HSZ := hid (factsT_size i.facts)
  have HCE := hid (factsT_cell i.facts)
  have HLS := hid (latD_snoc com S i.facts)
  obtain ⟨G, hG⟩ : ∃ G, G = i.facts := ⟨_, rfl⟩
  obtain ⟨r, hr⟩ : ∃ r, r = latD com S i.facts := ⟨_, rfl⟩
  rw [← hr]
  unfold instV
  rw [← hG] at hf hr HSZ HCE HLS ⊢
  have HR := hid hr
  obtain ⟨ft, hft⟩ : ∃ ft, ft = factsT G := ⟨_, rfl⟩
  rw [← hft] at HSZ HCE ⊢
  have hsz := HSZ.out
  obtain ⟨ru, hru⟩ : ∃ ru : Int, ru = i.rule := ⟨_, rfl⟩
  rw [← hru]
  generalize eI i.env 0 = e0
  generalize eI i.env 1 = e1
  generalize eI i.env 2 = e2
  generalize eI i.env 3 = e3
  clear hE hk hG hr hft hru hyl
  go_enter Tryz.func116, Tryz.ntmps116
  go_wp2_with fail
  have HWA : Hid (w.grownBy (w.alloc (.cells #[.int .i64 ru, .int .i64 e0, .int .i64 e1, .int .i64 e2, .int .i64 e3, .string ft] 136)) none) := hid (grown_alloc (grown_refl _ _) _)
  have HWB : Hid ((w.alloc (.cells #[.int .i64 ru, .int .i64 e0, .int .i64 e1, .int .i64 e2, .int .i64 e3, .string ft] 136)).cell? ⟨w.heap.size, 5, none⟩ = some (.string ft)) := hid (cell_new rfl)
  generalize w.alloc (.cells #[.int .i64 ru, .int .i64 e0, .int .i64 e1, .int .i64 e2, .int .i64 e3, .string ft] 136) = WA at HWA HWB ⊢
  generalize w.heap.size = b at HWB ⊢
  go_loopw [7, 8] (fun v t wr => ∃ j : Nat, j ≤ G.length ∧ t = .int .i64 ((j : Int) * 3) ∧ v = .int .i64 (latD com S (G.take j)) ∧ WA.grownBy wr none) (fun _ t _ => G.length * 3 - (intOf t).toNat)
  case atStart => exact ⟨0, by omega, rfl, rfl, grown_refl _ _⟩
  case round =>
    obtain ⟨j, hj, rfl, rfl, hg⟩ := hrel
    have HG := hid hg
    have d5 := grown_cell hg HWB.out
    by_cases hlt : j < G.length
    · have HC := hid (HSEE.out (cellT G[j].1) wr ((HE.out.kept HWA.out).kept hg))
      have HX := hid (HCE.out j hlt)
      have HL := hid (HLS.out j hlt)
      obtain ⟨ct, hct⟩ : ∃ ct, ct = cellT G[j].1 := ⟨_, rfl⟩
      rw [← hct] at HC HX HL
      obtain ⟨v0, hv0⟩ : ∃ v0, v0 = (seesF com S ct).1 := ⟨_, rfl⟩
      obtain ⟨t0, ht0⟩ : ∃ t0, t0 = (seesF com S ct).2 := ⟨_, rfl⟩
      rw [← hv0, ← ht0] at HC
      rw [← ht0] at HL
      obtain ⟨n0, hn0⟩ : ∃ n0, n0 = latD com S (G.take j) := ⟨_, rfl⟩
      rw [← hn0] at HL ⊢
      have hx : ft.extract (j * 3) (j * 3 + 2) = ct := HX.out
      have b1 : (j : Int) * 3 + 2 < ft.size := by omega
      have b2 : (0 : Int) ≤ (j : Int) * 3 := by omega
      clear hct hv0 ht0 hn0 hg
      go_wp2_with fail
      go_at_call 85
      refine HC.out.mono ?_
      rintro er w1 ⟨rfl, m, rfl⟩
      have ej : ((j : Int) * 3 + 3) = ((j + 1 : Nat) : Int) * 3 := by omega
      have HEJ := hid ej
      clear ej
      by_cases hgt : t0 > n0
      · have HL2 : Hid (latD com S (G.take (j + 1)) = t0) := hid (by rw [HL.out, if_pos hgt])
        go_wp2_with fail
        go_roundw
        case rel => exact ⟨j + 1, by omega, by rw [← HEJ.out], by rw [HL2.out], grown_drewN HG.out m⟩
        case measure => simp [intOf]; omega
      · have HL2 : Hid (latD com S (G.take (j + 1)) = n0) := hid (by rw [HL.out, if_neg hgt])
        go_wp2_with fail
        go_roundw
        case rel => exact ⟨j + 1, by omega, by rw [← HEJ.out], by rw [HL2.out], grown_drewN HG.out m⟩
        case measure => simp [intOf]; omega
    · have e : j = G.length := by omega
      subst e
      have HRR : Hid (latD com S (G.take G.length) = r) := hid (by rw [List.take_length, HR.out])
      obtain ⟨n0, hn0⟩ : ∃ n0, n0 = latD com S (G.take G.length) := ⟨_, rfl⟩
      rw [← hn0] at HRR ⊢
      clear hn0 hg
      go_wp2_with fail
      go_ret
      exact ⟨by rw [← HRR.out]; rfl, grown_trans HWA.out HG.out⟩

end Go.Proofs.YthlhbjnkohinmaaGreat
