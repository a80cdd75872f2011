/- Plain mathematics: the program's reading, by places, against the document's automaton. -/
import Derived.Test.YthlhbjnkohinmaaGreatRead
import Derived.Test.YthlhbjnkohinmaaGreatCut
namespace Go.Proofs.YthlhbjnkohinmaaGreat

/-- From the place i in the state q the automaton comes to the place j in the state q'. -/
def Goes (s : ByteArray) (i : Nat) (q : Int) (j : Nat) (q' : Int) : Prop := ∃ n, j = i + n ∧ runN s n q i = q'
theorem Goes.refl (s : ByteArray) (i : Nat) (q : Int) : Goes s i q i q := ⟨0, rfl, rfl⟩
theorem Goes.trans {s : ByteArray} {i j k : Nat} {q q' q'' : Int} (h : Goes s i q j q') (g : Goes s j q' k q'') : Goes s i q k q'' := by
  obtain ⟨n, rfl, rfl⟩ := h
  obtain ⟨m, rfl, rfl⟩ := g
  exact ⟨n + m, by omega, runN_add s n m q i⟩
theorem Goes.step {s : ByteArray} {i : Nat} {q q' : Int} (h : stepF q (bt s i) = q') : Goes s i q (i + 1) q' := ⟨1, rfl, h⟩
theorem Goes.snoc {s : ByteArray} {i j : Nat} {q q' q'' : Int} (h : Goes s i q j q') (g : stepF q' (bt s j) = q'') : Goes s i q (j + 1) q'' := h.trans (.step g)

/-- It comes to a place where the next byte cannot stand. -/
def Stops (s : ByteArray) (i : Nat) (q : Int) (j : Nat) : Prop := ∃ q', Goes s i q j q' ∧ 0 ≤ q' ∧ stepF q' (bt s j) = -1 ∧ (q' = 0 → j < s.size)
theorem Stops.after {s : ByteArray} {i j k : Nat} {q q' : Int} (h : Goes s i q j q') (g : Stops s j q' k) : Stops s i q k := by
  obtain ⟨q'', g1, g2, g3, g4⟩ := g
  exact ⟨q'', h.trans g1, g2, g3, g4⟩
theorem Stops.here {s : ByteArray} {i j : Nat} {q q' : Int} (h : Goes s i q j q') (h0 : 0 < q') (hs : stepF q' (bt s j) = -1) : Stops s i q j := ⟨q', h, by omega, hs, by omega⟩

theorem cls_no33 : clsB 33 = false := by decide
theorem pat_goes {s : ByteArray} {i : Nat} {q : Int} (hq : ∀ c, clsB c = true → stepF q c = 3) (h : patLen s i = 3) : Goes s i q (i + patLen s i) 8 := by
  rw [h]
  unfold patLen at h
  split at h
  · split at h
    · split at h
      · rename_i h0 h1 h2
        have g1 : Goes s i q (i + 1) 3 := .step (hq _ h0)
        have g2 : Goes s i q (i + 2) 4 := g1.snoc (by simp [stepF, condsF, h1])
        exact g2.snoc (by simp [stepF, condsF, h2])
      · omega
    · omega
  · omega
theorem pat_stops {s : ByteArray} {i : Nat} {q : Int} (hq : ∀ c, clsB c = true → stepF q c = 3) (hq0 : 0 < q) (hn : clsB (bt s i) = false → stepF q (bt s i) = -1) (h : ¬ patLen s i = 3) : Stops s i q (i + patLen s i) := by
  unfold patLen at h ⊢
  split
  · rename_i h0
    have g1 : Goes s i q (i + 1) 3 := .step (hq _ h0)
    split
    · rename_i h1
      have g2 : Goes s i q (i + 2) 4 := g1.snoc (by simp [stepF, condsF, h1])
      split
      · rename_i h2; simp [h0, h1, h2] at h
      · rename_i h2
        exact .here g2 (by omega) (by simp [stepF, condsF, h2])
    · rename_i h1
      exact .here g1 (by omega) (by simp [stepF, condsF, h1])
  · rename_i h0
    exact .here (Goes.refl _ _ _) hq0 (hn (by simpa using h0))
theorem sim_cls {c : Int} (h : clsB c = true) : simB c = false := by
  simp only [clsB, decide_eq_true_eq] at h
  simp only [simB, digB, letB, Bool.or_eq_false_iff, decide_eq_false_iff_not]
  omega
theorem tst_goes {s : ByteArray} {i : Nat} (h0 : clsB (bt s i) = false) (h33 : ¬ bt s i = 33) (h : tstLen s i = 3) : Goes s i 2 (i + tstLen s i) 8 := by
  rw [h]
  unfold tstLen at h
  split at h
  · split at h
    · split at h
      · rename_i h1 h2 h3
        have g1 : Goes s i 2 (i + 1) 6 := .step (by simp [stepF, condsF, h0, h33, h1])
        have g2 : Goes s i 2 (i + 2) 7 := g1.snoc (by have : bt s (i + 1) = 60 ∨ bt s (i + 1) = 61 ∨ bt s (i + 1) = 35 := by simpa [sgnB, or_assoc] using h2
                                                      simp [stepF, condsF, this])
        exact g2.snoc (by simp [stepF, condsF, h3])
      · omega
    · omega
  · omega
theorem tst_stops {s : ByteArray} {i : Nat} (h0 : clsB (bt s i) = false) (h33 : ¬ bt s i = 33) (h : ¬ tstLen s i = 3) : Stops s i 2 (i + tstLen s i) := by
  unfold tstLen at h ⊢
  split
  · rename_i h1
    have g1 : Goes s i 2 (i + 1) 6 := .step (by simp [stepF, condsF, h0, h33, h1])
    split
    · rename_i h2
      have g2 : Goes s i 2 (i + 2) 7 := g1.snoc (by have : bt s (i + 1) = 60 ∨ bt s (i + 1) = 61 ∨ bt s (i + 1) = 35 := by simpa [sgnB, or_assoc] using h2
                                                    simp [stepF, condsF, this])
      split
      · rename_i h3; simp [h1, h2, h3] at h
      · rename_i h3
        exact .here g2 (by omega) (by simp [stepF, condsF, h3])
    · rename_i h2
      refine .here g1 (by omega) ?_
      have : ¬ (bt s (i + 1) = 60 ∨ bt s (i + 1) = 61 ∨ bt s (i + 1) = 35) := by simpa [sgnB, or_assoc] using h2
      simp [stepF, condsF, this]
  · rename_i h1
    exact .here (Goes.refl _ _ _) (by omega) (by simp [stepF, condsF, h0, h33, h1])
theorem cd_goes {s : ByteArray} {i : Nat} (h : cdOk s i = true) : Goes s i 2 (i + cdLen s i) 8 := by
  unfold cdOk at h; unfold cdLen
  by_cases h33 : bt s i = 33
  · simp only [h33, if_true] at h ⊢
    have hp : patLen s (i + 1) = 3 := by simpa using h
    have g : Goes s i 2 (i + 1) 5 := .step (by simp [stepF, condsF, h33, cls_no33])
    have := g.trans (pat_goes (q := 5) (fun c hc => by simp [stepF, condsF, hc]) hp)
    rwa [show i + (1 + patLen s (i + 1)) = i + 1 + patLen s (i + 1) by omega]
  · by_cases hc : clsB (bt s i) = true
    · simp only [h33, hc, if_false, if_true] at h ⊢
      exact pat_goes (q := 2) (fun c hc => by simp [stepF, condsF, hc]) (by simpa using h)
    · simp only [h33, hc, if_false] at h ⊢
      exact tst_goes (by simpa using hc) h33 (by simpa using h)
theorem cd_stops {s : ByteArray} {i : Nat} (h : cdOk s i = false) : Stops s i 2 (i + cdLen s i) := by
  unfold cdOk at h; unfold cdLen
  by_cases h33 : bt s i = 33
  · simp only [h33, if_true] at h ⊢
    have g : Goes s i 2 (i + 1) 5 := .step (by simp [stepF, condsF, h33, cls_no33])
    have := Stops.after g (pat_stops (q := 5) (fun c hc => by simp [stepF, condsF, hc]) (by omega) (fun hc => by simp [stepF, condsF, hc]) (by simpa using h))
    rwa [show i + (1 + patLen s (i + 1)) = i + 1 + patLen s (i + 1) by omega]
  · by_cases hc : clsB (bt s i) = true
    · simp only [h33, hc, if_false, if_true] at h ⊢
      exact pat_stops (q := 2) (fun c hc => by simp [stepF, condsF, hc]) (by omega) (fun hx => by rw [hc] at hx; cases hx) (by simpa using h)
    · simp only [h33, hc, if_false] at h ⊢
      exact tst_stops (by simpa using hc) h33 (by simpa using h)

theorem bt_end {s : ByteArray} {i : Nat} (h : ¬ i < s.size) : bt s i = 0 := bt_out h
theorem cds_goes {s : ByteArray} {i : Nat} {L : List Nat} {j : Nat} {ok : Bool} (h : Cds s i L j ok) : (ok = true → Goes s i 2 j 9) ∧ (ok = false → Stops s i 2 j) := by
  refine Cds.ind (M := fun i L j ok => (ok = true → Goes s i 2 j 9) ∧ (ok = false → Stops s i 2 j)) ?_ ?_ ?_ ?_ ?_ h
  · intro _ h
    exact ⟨fun h => (by cases h), fun _ => .here (Goes.refl _ _ _) (by omega) (by rw [bt_end h]; decide)⟩
  · intro _ _ h
    exact ⟨fun h => (by cases h), fun _ => cd_stops h⟩
  · intro _ _ h he
    exact ⟨fun _ => (cd_goes h).snoc (by rw [he]; decide), fun h => (by cases h)⟩
  · intro _ _ h h1 h2
    exact ⟨fun h => (by cases h), fun _ => .here (cd_goes h) (by omega) (by simp [stepF, condsF, h1, h2])⟩
  · intro _ _ _ _ _ h h1 _ ih
    have g := (cd_goes h).snoc (q'' := 2) (by rw [h1]; decide)
    exact ⟨fun e => g.trans (ih.1 e), fun e => .after g (ih.2 e)⟩

theorem ex_goes {s : ByteArray} {i : Nat} {q a b : Int} (h1 : ∀ c, simB c = true → stepF q c = a) (h2 : ∀ c, turB c = true → stepF a c = b) (h : simB (bt s i) = true) :
    (turB (bt s (i + 1)) = true ∧ Goes s i q (exJ s i) b) ∨ (turB (bt s (i + 1)) = false ∧ exJ s i = i + 1 ∧ Goes s i q (exJ s i) a) := by
  have g : Goes s i q (i + 1) a := .step (h1 _ h)
  unfold exJ
  by_cases ht : turB (bt s (i + 1)) = true
  · left; simp only [ht, if_true]; exact ⟨trivial, g.snoc (h2 _ ht)⟩
  · have ht' : turB (bt s (i + 1)) = false := by simpa using ht
    right; simp only [ht', Bool.false_eq_true, if_false]; exact ⟨trivial, trivial, g⟩
theorem sim_tur {c : Int} (h : simB c = true) : turB c = false := by
  simp only [simB, digB, letB, Bool.or_eq_true, decide_eq_true_eq] at h
  simp only [turB, Bool.or_eq_false_iff, beq_eq_false_iff_ne]
  omega
theorem cls_tur {c : Int} (h : clsB c = true) : turB c = false := by
  simp only [clsB, decide_eq_true_eq] at h
  simp only [turB, Bool.or_eq_false_iff, beq_eq_false_iff_ne]
  omega
/-- Behind an action: its end is told, or one more turn could stand there, but does not. -/
def AtEnd (s : ByteArray) (i : Nat) (j : Nat) : Prop := Goes s i 9 j 17 ∨ (Goes s i 9 j 16 ∧ turB (bt s j) = false)

theorem emp_goes {s : ByteArray} {i : Nat} (h : empOk s i = true) : Goes s i 14 (i + empLen s i) 17 ∨ (Goes s i 14 (i + empLen s i) 16 ∧ turB (bt s (i + empLen s i)) = false) := by
  simp only [empOk, Bool.and_eq_true] at h
  obtain ⟨h0, h1⟩ := h
  have hj := exJ_gt s (i + 1)
  have e : i + empLen s i = exJ s (i + 1) := by simp [empLen, h0, h1]; omega
  rw [e]
  have g1 : Goes s i 14 (i + 1) 15 := .step (by simp [stepF, actsF, h0])
  rcases ex_goes (q := 15) (a := 16) (b := 17) (fun c hc => by simp [stepF, actsF, hc]) (fun c hc => by simp [stepF, actsF, hc]) h1 with ⟨_, g⟩ | ⟨ht, hjj, g⟩
  · exact .inl (g1.trans g)
  · exact .inr ⟨g1.trans g, by rw [hjj]; exact ht⟩
theorem emp_stops {s : ByteArray} {i : Nat} (h : empOk s i = false) : Stops s i 14 (i + empLen s i) := by
  unfold empOk at h; unfold empLen
  split
  · rename_i h0
    have g1 : Goes s i 14 (i + 1) 15 := .step (by simp [stepF, actsF, h0])
    split
    · rename_i h1; simp [h0, h1] at h
    · rename_i h1; exact .here g1 (by omega) (by simp [stepF, actsF, h1])
  · rename_i h0; exact .here (Goes.refl _ _ _) (by omega) (by simp [stepF, actsF, h0])
theorem fil_goes {s : ByteArray} {i : Nat} (h : filOk s i = true) : Goes s i 10 (i + filLen s i) 17 ∨ (Goes s i 10 (i + filLen s i) 16 ∧ turB (bt s (i + filLen s i)) = false) := by
  simp only [filOk, Bool.and_eq_true] at h
  obtain ⟨⟨h0, h1⟩, h2⟩ := h
  have hj := exJ_gt s (i + 1)
  have hj2 := exJ_gt s (exJ s (i + 1))
  have e : i + filLen s i = exJ s (exJ s (i + 1)) := by simp [filLen, h0, h1, h2]; omega
  rw [e]
  have g1 : Goes s i 10 (i + 1) 11 := .step (by simp [stepF, actsF, h0])
  have g2 : Goes s i 10 (exJ s (i + 1)) 13 ∨ (Goes s i 10 (exJ s (i + 1)) 12 ∧ turB (bt s (exJ s (i + 1))) = false) := by
    rcases ex_goes (q := 11) (a := 12) (b := 13) (fun c hc => by simp [stepF, actsF, hc]) (fun c hc => by simp [stepF, actsF, hc]) h1 with ⟨_, g⟩ | ⟨ht, hjj, g⟩
    · exact .inl (g1.trans g)
    · exact .inr ⟨g1.trans g, by rw [hjj]; exact ht⟩
  rcases g2 with g2 | ⟨g2, ht⟩
  · rcases ex_goes (q := 13) (a := 16) (b := 17) (fun c hc => by simp [stepF, actsF, hc]) (fun c hc => by simp [stepF, actsF, hc]) h2 with ⟨_, g⟩ | ⟨ht, hjj, g⟩
    · exact .inl (g2.trans g)
    · exact .inr ⟨g2.trans g, by rw [hjj]; exact ht⟩
  · rcases ex_goes (q := 12) (a := 16) (b := 17) (fun c hc => by simp [stepF, actsF, hc, sim_tur hc]) (fun c hc => by simp [stepF, actsF, hc]) h2 with ⟨_, g⟩ | ⟨ht, hjj, g⟩
    · exact .inl (g2.trans g)
    · exact .inr ⟨g2.trans g, by rw [hjj]; exact ht⟩
theorem fil_stops {s : ByteArray} {i : Nat} (h : filOk s i = false) : Stops s i 10 (i + filLen s i) := by
  unfold filOk at h; unfold filLen
  split
  · rename_i h0
    have g1 : Goes s i 10 (i + 1) 11 := .step (by simp [stepF, actsF, h0])
    split
    · rename_i h1
      have hj := exJ_gt s (i + 1)
      split
      · rename_i h2; simp [h0, h1, h2] at h
      · rename_i h2
        rw [show i + (exJ s (i + 1) - i) = exJ s (i + 1) by omega]
        rcases ex_goes (q := 11) (a := 12) (b := 13) (fun c hc => by simp [stepF, actsF, hc]) (fun c hc => by simp [stepF, actsF, hc]) h1 with ⟨_, g⟩ | ⟨ht, hjj, g⟩
        · exact .here (g1.trans g) (by omega) (by simp [stepF, actsF, h2])
        · exact .here (g1.trans g) (by omega) (by rw [← hjj] at ht; simp [stepF, actsF, h2, ht])
    · rename_i h1; exact .here g1 (by omega) (by simp [stepF, actsF, h1])
  · rename_i h0; exact .here (Goes.refl _ _ _) (by omega) (by simp [stepF, actsF, h0])
theorem ac_goes {s : ByteArray} {i : Nat} (h : acOk s i = true) : AtEnd s i (i + acLen s i) := by
  unfold acOk at h; unfold acLen AtEnd
  by_cases h43 : bt s i = 43
  · simp only [h43, if_true] at h ⊢
    have g : Goes s i 9 (i + 1) 10 := .step (by rw [h43]; decide)
    rw [show i + (1 + filLen s (i + 1)) = i + 1 + filLen s (i + 1) by omega]
    rcases fil_goes h with g2 | ⟨g2, ht⟩
    · exact .inl (g.trans g2)
    · exact .inr ⟨g.trans g2, ht⟩
  · by_cases h45 : bt s i = 45
    · simp only [h45, if_true] at h ⊢
      have g : Goes s i 9 (i + 1) 14 := .step (by rw [h45]; decide)
      simp only [show ¬ (45 : Int) = 43 by decide, if_false] at h ⊢
      rw [show i + (1 + empLen s (i + 1)) = i + 1 + empLen s (i + 1) by omega]
      rcases emp_goes h with g2 | ⟨g2, ht⟩
      · exact .inl (g.trans g2)
      · exact .inr ⟨g.trans g2, ht⟩
    · simp only [h43, h45, if_false, beq_iff_eq] at h
      simp only [h, if_true, show ¬ (46 : Int) = 43 by decide, show ¬ (46 : Int) = 45 by decide, if_false]
      exact .inl (.step (by rw [h]; decide))
theorem ac_stops {s : ByteArray} {i : Nat} (h : acOk s i = false) : Stops s i 9 (i + acLen s i) := by
  unfold acOk at h; unfold acLen
  by_cases h43 : bt s i = 43
  · simp only [h43, if_true] at h ⊢
    have g : Goes s i 9 (i + 1) 10 := .step (by rw [h43]; decide)
    rw [show i + (1 + filLen s (i + 1)) = i + 1 + filLen s (i + 1) by omega]
    exact .after g (fil_stops h)
  · by_cases h45 : bt s i = 45
    · simp only [h45, if_true] at h ⊢
      have g : Goes s i 9 (i + 1) 14 := .step (by rw [h45]; decide)
      simp only [show ¬ (45 : Int) = 43 by decide, if_false] at h ⊢
      rw [show i + (1 + empLen s (i + 1)) = i + 1 + empLen s (i + 1) by omega]
      exact .after g (emp_stops h)
    · have h46 : ¬ bt s i = 46 := by simpa [h43, h45] using h
      simp only [h43, h45, h46, if_false]
      exact .here (Goes.refl _ _ _) (by omega) (by simp [stepF, actsF, h43, h45, h46])
theorem acs_goes {s : ByteArray} {i : Nat} {L : List Nat} {j : Nat} {ok : Bool} (h : Acs s i L j ok) : (ok = true → Goes s i 9 j 0) ∧ (ok = false → Stops s i 9 j) := by
  refine Acs.ind (M := fun i L j ok => (ok = true → Goes s i 9 j 0) ∧ (ok = false → Stops s i 9 j)) ?_ ?_ ?_ ?_ ?_ h
  · intro _ h
    exact ⟨fun h => (by cases h), fun _ => .here (Goes.refl _ _ _) (by omega) (by rw [bt_end h]; decide)⟩
  · intro _ _ h
    exact ⟨fun h => (by cases h), fun _ => ac_stops h⟩
  · intro _ _ h he
    refine ⟨fun _ => ?_, fun h => (by cases h)⟩
    rcases ac_goes h with g | ⟨g, _⟩
    · exact g.snoc (by rw [he]; decide)
    · exact g.snoc (by rw [he]; decide)
  · intro _ _ h h1 h2
    refine ⟨fun h => (by cases h), fun _ => ?_⟩
    rcases ac_goes h with g | ⟨g, ht⟩
    · exact .here g (by omega) (by simp [stepF, actsF, h1, h2])
    · exact .here g (by omega) (by simp [stepF, actsF, h1, h2, ht])
  · intro i' _ _ _ _ h h1 _ ih
    have g : Goes s i' 9 (i' + acLen s i' + 1) 9 := by
      rcases ac_goes h with g | ⟨g, _⟩
      · exact g.snoc (by rw [h1]; decide)
      · exact g.snoc (by rw [h1]; decide)
    exact ⟨fun e => g.trans (ih.1 e), fun e => .after g (ih.2 e)⟩
theorem rul_goes {s : ByteArray} {i : Nat} {L K : List Nat} {j : Nat} {ok : Bool} (hi : i < s.size) (h : Rul s i L K j ok) : (ok = true → Goes s i 0 j 0) ∧ (ok = false → Stops s i 0 j) := by
  rcases h with ⟨h, _, _, rfl, rfl⟩ | ⟨h, h1, _, _, rfl, rfl⟩ | ⟨h, h1, hc, _, rfl⟩ | ⟨j1, h, h1, hc, ha⟩
  · exact ⟨fun h => (by cases h), fun _ => ⟨0, Goes.refl _ _ _, by omega, by simp [stepF, condsF, h], fun _ => hi⟩⟩
  · exact ⟨fun h => (by cases h), fun _ => .here (.step (q' := 1) (by simp [stepF, condsF, h])) (by omega) (by simp [stepF, condsF, h1])⟩
  · have g : Goes s i 0 (i + 2) 2 := (Goes.step (q' := 1) (by simp [stepF, condsF, h])).snoc (by rw [h1]; decide)
    exact ⟨fun h => (by cases h), fun _ => .after g ((cds_goes hc).2 rfl)⟩
  · have g : Goes s i 0 (i + 2) 2 := (Goes.step (q' := 1) (by simp [stepF, condsF, h])).snoc (by rw [h1]; decide)
    have g2 := g.trans ((cds_goes hc).1 rfl)
    exact ⟨fun e => g2.trans ((acs_goes ha).1 e), fun e => .after g2 ((acs_goes ha).2 e)⟩
theorem rls_goes {s : ByteArray} {i : Nat} {R : List RuleP} {j : Nat} {ok : Bool} (h : Rls s i R j ok) : (ok = true → Goes s i 0 j 0 ∧ ¬ j < s.size) ∧ (ok = false → Stops s i 0 j) := by
  refine Rls.ind (M := fun i R j ok => (ok = true → Goes s i 0 j 0 ∧ ¬ j < s.size) ∧ (ok = false → Stops s i 0 j)) ?_ ?_ ?_ h
  · intro _ h
    exact ⟨fun _ => ⟨Goes.refl _ _ _, h⟩, fun h => (by cases h)⟩
  · intro _ _ _ _ hi h
    exact ⟨fun h => (by cases h), fun _ => (rul_goes hi h).2 rfl⟩
  · intro _ _ _ _ _ _ _ hi h _ ih
    have g := (rul_goes hi h).1 rfl
    exact ⟨fun e => ⟨g.trans (ih.1 e).1, (ih.1 e).2⟩, fun e => .after g (ih.2 e)⟩

theorem stepF_neg (c : Int) : stepF (-1) c = -1 := by simp [stepF, condsF]
theorem stepF_zero (q : Int) : stepF q 0 = -1 := by
  have h1 : digB 0 = false := by decide
  have h2 : clsB 0 = false := by decide
  have h3 : simB 0 = false := by decide
  have h4 : terB 0 = false := by decide
  have h5 : turB 0 = false := by decide
  simp [stepF, condsF, actsF, h1, h2, h3, h4, h5]
theorem runN_neg (s : ByteArray) : ∀ (n : Nat) (i : Nat), runN s n (-1) i = -1
  | 0, _ => rfl
  | n + 1, i => by simp only [runN, stepF_neg]; exact runN_neg s n _
theorem runN_within (s : ByteArray) (n : Nat) (h : 0 ≤ runN s n 0 0) : n ≤ s.size := by
  by_cases hn : n ≤ s.size
  · exact hn
  · have e : n = (s.size + 1) + (n - s.size - 1) := by omega
    rw [e, runN_add, runN_succ, bt_out (by omega), stepF_zero, runN_neg] at h
    omega
/-- The first place where a byte cannot stand, told by the automaton. -/
theorem stop_place {s : ByteArray} {j : Nat} (h : Stops s 0 0 j) {p : Int} (hp : PlaceAns s p) : p = j := by
  obtain ⟨q, ⟨n, hn, hq⟩, h0, h1, h2⟩ := h
  have hn : n = j := by omega
  subst hn
  have hjs : n ≤ s.size := runN_within s n (by rw [hq]; exact h0)
  have hdead : ∀ m, n < m → runN s m 0 0 = -1 := by
    intro m hm
    rw [show m = (n + 1) + (m - n - 1) by omega, runN_add, runN_succ, hq, Nat.zero_add, h1, runN_neg]
  rcases hp with ⟨_, h⟩ | ⟨k, rfl, hk, h3, h4, h5⟩
  · by_cases e : n = s.size
    · rw [← e, hq] at h
      have := h2 h
      omega
    · rw [hdead s.size (by omega)] at h
      omega
  · rcases Nat.lt_trichotomy k n with hlt | he | hgt
    · have hx := h4 (by omega)
      have : runN s n 0 0 = -1 := by rw [show n = (k + 1) + (n - k - 1) by omega, runN_add, runN_succ, Nat.zero_add, hx, runN_neg]
      omega
    · rw [he]
    · rw [hdead k hgt] at h3
      omega
theorem goes_place {s : ByteArray} {j : Nat} (h : Goes s 0 0 j 0) (hj : ¬ j < s.size) {p : Int} (hp : PlaceAns s p) : p = -1 ∧ j = s.size := by
  obtain ⟨n, hn, hq⟩ := h
  have hn : n = j := by omega
  subst hn
  have hjs : n ≤ s.size := runN_within s n (by rw [hq]; omega)
  have e : n = s.size := by omega
  subst e
  refine ⟨?_, rfl⟩
  rcases hp with ⟨h, _⟩ | ⟨k, rfl, hk, h3, h4, h5⟩
  · exact h
  · by_cases e : k = s.size
    · exact absurd (by rw [e]; exact hq) (h5 e)
    · have hx := h4 (by omega)
      have : runN s s.size 0 0 = -1 := by rw [show s.size = (k + 1) + (s.size - k - 1) by omega, runN_add, runN_succ, Nat.zero_add, hx, runN_neg]
      omega

end Go.Proofs.YthlhbjnkohinmaaGreat
