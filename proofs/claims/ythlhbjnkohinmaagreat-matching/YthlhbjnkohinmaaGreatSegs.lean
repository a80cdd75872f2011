/- Plain mathematics: the parts into which the document cuts a text that has the form, by the places that the program read. -/
import Derived.Test.YthlhbjnkohinmaaGreatForm
namespace Go.Proofs.YthlhbjnkohinmaaGreat

def sepB (c : Int) : Bool := c == 44 || c == 59 || c == 62
theorem cls_sep {c : Int} (h : clsB c = true) : sepB c = false := by
  simp only [clsB, decide_eq_true_eq] at h
  simp only [sepB, Bool.or_eq_false_iff, beq_eq_false_iff_ne]; omega
theorem sim_sep {c : Int} (h : simB c = true) : sepB c = false := by
  simp only [simB, digB, letB, Bool.or_eq_true, decide_eq_true_eq] at h
  simp only [sepB, Bool.or_eq_false_iff, beq_eq_false_iff_ne]; omega
theorem ter_sep {c : Int} (h : terB c = true) : sepB c = false := by
  simp only [terB, simB, digB, letB, Bool.or_eq_true, decide_eq_true_eq, beq_iff_eq] at h
  simp only [sepB, Bool.or_eq_false_iff, beq_eq_false_iff_ne]; omega
theorem sgn_sep {c : Int} (h : sgnB c = true) : sepB c = false := by
  simp only [sgnB, Bool.or_eq_true, beq_iff_eq] at h
  simp only [sepB, Bool.or_eq_false_iff, beq_eq_false_iff_ne]; omega
theorem tur_sep {c : Int} (h : turB c = true) : sepB c = false := by
  simp only [turB, Bool.or_eq_true, beq_iff_eq] at h
  simp only [sepB, Bool.or_eq_false_iff, beq_eq_false_iff_ne]; omega

/-- From i to j there is no sign that parts. -/
def Bare (s : ByteArray) (i j : Nat) : Prop := ∀ q, i ≤ q → q < j → sepB (bt s q) = false
theorem Bare.nil (s : ByteArray) (i : Nat) : Bare s i i := fun q h1 h2 => by omega
theorem Bare.one {s : ByteArray} {i : Nat} (h : sepB (bt s i) = false) : Bare s i (i + 1) := fun q h1 h2 => by rw [show q = i by omega]; exact h
theorem Bare.trans {s : ByteArray} {i j k : Nat} (h : Bare s i j) (g : Bare s j k) : Bare s i k := fun q h1 h2 => by
  by_cases hq : q < j
  · exact h q h1 hq
  · exact g q (by omega) h2
theorem Bare.snoc {s : ByteArray} {i j : Nat} (h : Bare s i j) (g : sepB (bt s j) = false) : Bare s i (j + 1) := h.trans (.one g)

theorem pat_bare {s : ByteArray} {i : Nat} (h : patLen s i = 3) : Bare s i (i + 3) := by
  unfold patLen at h
  split at h
  · split at h
    · split at h
      · rename_i h0 h1 h2
        exact ((Bare.one (cls_sep h0)).snoc (ter_sep h1)).snoc (ter_sep h2)
      · omega
    · omega
  · omega
theorem tst_bare {s : ByteArray} {i : Nat} (h : tstLen s i = 3) : Bare s i (i + 3) := by
  unfold tstLen at h
  split at h
  · split at h
    · split at h
      · rename_i h0 h1 h2
        exact ((Bare.one (sim_sep h0)).snoc (sgn_sep h1)).snoc (sim_sep h2)
      · omega
    · omega
  · omega
theorem cd_bare {s : ByteArray} {i : Nat} (h : cdOk s i = true) : Bare s i (i + cdLen s i) := by
  unfold cdOk at h; unfold cdLen
  by_cases h33 : bt s i = 33
  · simp only [h33, if_true] at h ⊢
    have hp : patLen s (i + 1) = 3 := by simpa using h
    rw [hp]
    exact (Bare.one (by rw [h33]; decide)).trans (pat_bare hp)
  · by_cases hc : clsB (bt s i) = true
    · simp only [h33, hc, if_false, if_true] at h ⊢
      have hp : patLen s i = 3 := by simpa using h
      rw [hp]; exact pat_bare hp
    · simp only [h33, hc, if_false] at h ⊢
      have hp : tstLen s i = 3 := by simpa using h
      rw [hp]; exact tst_bare hp
theorem ex_bare {s : ByteArray} {i : Nat} (h : simB (bt s i) = true) : Bare s i (exJ s i) := by
  unfold exJ
  split
  · rename_i ht; exact (Bare.one (sim_sep h)).snoc (tur_sep ht)
  · exact Bare.one (sim_sep h)
theorem ac_bare {s : ByteArray} {i : Nat} (h : acOk s i = true) : Bare s i (i + acLen s i) := by
  unfold acOk at h; unfold acLen
  by_cases h43 : bt s i = 43
  · simp only [h43, if_true] at h ⊢
    simp only [filOk, Bool.and_eq_true] at h
    obtain ⟨⟨h0, h1⟩, h2⟩ := h
    have hj := exJ_gt s (i + 1 + 1)
    have hj2 := exJ_gt s (exJ s (i + 1 + 1))
    have e : i + (1 + filLen s (i + 1)) = exJ s (exJ s (i + 1 + 1)) := by simp [filLen, h0, h1, h2]; omega
    rw [e]
    exact (((Bare.one (by rw [h43]; decide)).snoc (cls_sep h0)).trans (ex_bare h1)).trans (ex_bare h2)
  · by_cases h45 : bt s i = 45
    · simp only [h45, if_true, show ¬ (45 : Int) = 43 by decide, if_false] at h ⊢
      simp only [empOk, Bool.and_eq_true] at h
      obtain ⟨h0, h1⟩ := h
      have hj := exJ_gt s (i + 1 + 1)
      have e : i + (1 + empLen s (i + 1)) = exJ s (i + 1 + 1) := by simp [empLen, h0, h1]; omega
      rw [e]
      exact ((Bare.one (by rw [h45]; decide)).snoc (cls_sep h0)).trans (ex_bare h1)
    · simp only [h43, h45, if_false, beq_iff_eq] at h
      simp only [h, if_true, show ¬ (46 : Int) = 43 by decide, show ¬ (46 : Int) = 45 by decide, if_false]
      exact Bare.one (by rw [h]; decide)

theorem cutR_skip {s : ByteArray} {a b : Int} (ha : sepB a = true) (hb : sepB b = true) : ∀ (m n f i : Nat), Bare s i (i + m) → cutR s a b (m + n) f i = cutR s a b n f (i + m)
  | 0, n, f, i, _ => by simp
  | m + 1, n, f, i, h => by
    have h0 := h i (by omega) (by omega)
    rw [show m + 1 + n = (m + n) + 1 by omega, cutR, if_neg (by
      rintro (e | e)
      · rw [e, ha] at h0; cases h0
      · rw [e, hb] at h0; cases h0), cutR_skip ha hb m n f (i + 1) (fun q h1 h2 => h q (by omega) (by omega)), show i + 1 + m = i + (m + 1) by omega]

theorem cds_cut {s : ByteArray} {i : Nat} {L : List Nat} {j : Nat} {ok : Bool} (h : Cds s i L j ok) : ok = true → cutR s 44 62 (j - i) i i = L.map fun p => (p, p + cdLen s p) := by
  refine Cds.ind (M := fun i L j ok => ok = true → cutR s 44 62 (j - i) i i = L.map fun p => (p, p + cdLen s p)) ?_ ?_ ?_ ?_ ?_ h
  · intro _ _
    intro h; cases h
  · intro _ _ _
    intro h; cases h
  · intro i' _ h he
    intro _
    rw [show i' + cdLen s i' + 1 - i' = cdLen s i' + 1 by omega, cutR_skip (by decide) (by decide) _ 1 _ _ (cd_bare h), cutR, if_pos (.inr he)]
    rfl
  · intro _ _ _ _ _
    intro h; cases h
  · intro i' L' j' _ _ h he hn ih
    intro e
    have hle := Cds_le hn
    rw [show j' - i' = cdLen s i' + ((j' - (i' + cdLen s i' + 1)) + 1) by omega, cutR_skip (by decide) (by decide) _ _ _ _ (cd_bare h), cutR, if_pos (.inl he), ih e]
    rfl
theorem acs_cut {s : ByteArray} {i : Nat} {L : List Nat} {j : Nat} {ok : Bool} (h : Acs s i L j ok) : ok = true → cutR s 44 59 (j - i) i i = L.map fun p => (p, p + acLen s p) := by
  refine Acs.ind (M := fun i L j ok => ok = true → cutR s 44 59 (j - i) i i = L.map fun p => (p, p + acLen s p)) ?_ ?_ ?_ ?_ ?_ h
  · intro _ _
    intro h; cases h
  · intro _ _ _
    intro h; cases h
  · intro i' _ h he
    intro _
    rw [show i' + acLen s i' + 1 - i' = acLen s i' + 1 by omega, cutR_skip (by decide) (by decide) _ 1 _ _ (ac_bare h), cutR, if_pos (.inr he)]
    rfl
  · intro _ _ _ _ _
    intro h; cases h
  · intro i' L' j' _ _ h he hn ih
    intro e
    have hle := Acs_le hn
    rw [show j' - i' = acLen s i' + ((j' - (i' + acLen s i' + 1)) + 1) by omega, cutR_skip (by decide) (by decide) _ _ _ _ (ac_bare h), cutR, if_pos (.inl he), ih e]
    rfl

/-- Without 59 (59 and 62) from i to j. -/
def No (s : ByteArray) (c : Int) (i j : Nat) : Prop := ∀ q, i ≤ q → q < j → bt s q ≠ c
theorem No.trans {s : ByteArray} {c : Int} {i j k : Nat} (h : No s c i j) (g : No s c j k) : No s c i k := fun q h1 h2 => by
  by_cases hq : q < j
  · exact h q h1 hq
  · exact g q (by omega) h2
theorem No.one {s : ByteArray} {c : Int} {i : Nat} (h : bt s i ≠ c) : No s c i (i + 1) := fun q h1 h2 => by rw [show q = i by omega]; exact h
theorem No.bare {s : ByteArray} {c : Int} (hc : sepB c = true) {i j : Nat} (h : Bare s i j) : No s c i j := fun q h1 h2 e => by
  have := h q h1 h2; rw [e, hc] at this; cases this

def cdsEnd (s : ByteArray) (L : List Nat) : Nat := L.getLastD 0 + cdLen s (L.getLastD 0)
def acsEnd (s : ByteArray) (L : List Nat) : Nat := L.getLastD 0 + acLen s (L.getLastD 0)
theorem lastD_cons {L : List Nat} (a : Nat) (h : L ≠ []) : (a :: L).getLastD 0 = L.getLastD 0 := by
  cases L with
  | nil => exact absurd rfl h
  | cons b L => simp [List.getLastD]
theorem cds_end {s : ByteArray} {i : Nat} {L : List Nat} {j : Nat} {ok : Bool} (h : Cds s i L j ok) : ok = true → L ≠ [] ∧ j = cdsEnd s L + 1 ∧ bt s (cdsEnd s L) = 62 ∧ No s 62 i (cdsEnd s L) ∧ No s 59 i (cdsEnd s L) ∧ i ≤ cdsEnd s L := by
  refine Cds.ind (M := fun i L j ok => ok = true → L ≠ [] ∧ j = cdsEnd s L + 1 ∧ bt s (cdsEnd s L) = 62 ∧ No s 62 i (cdsEnd s L) ∧ No s 59 i (cdsEnd s L) ∧ i ≤ cdsEnd s L) ?_ ?_ ?_ ?_ ?_ h
  · intro _ _
    intro h; cases h
  · intro _ _ _
    intro h; cases h
  · intro i' _ h he
    intro _; exact ⟨by simp, rfl, he, .bare (by decide) (cd_bare h), .bare (by decide) (cd_bare h), by simp [cdsEnd]⟩
  · intro _ _ _ _ _
    intro h; cases h
  · intro i' L' j' _ _ h he hn ih
    intro e
    obtain ⟨h1, h2, h3, h4, h5, h6⟩ := ih e
    have hd : cdsEnd s (i' :: L') = cdsEnd s L' := by unfold cdsEnd; rw [lastD_cons i' h1]
    rw [hd]
    exact ⟨by simp, h2, h3, ((No.bare (by decide) (cd_bare h)).trans (.one (by rw [he]; decide))).trans h4, ((No.bare (by decide) (cd_bare h)).trans (.one (by rw [he]; decide))).trans h5, by omega⟩
theorem acs_end {s : ByteArray} {i : Nat} {L : List Nat} {j : Nat} {ok : Bool} (h : Acs s i L j ok) : ok = true → L ≠ [] ∧ j = acsEnd s L + 1 ∧ bt s (acsEnd s L) = 59 ∧ No s 59 i (acsEnd s L) ∧ i ≤ acsEnd s L ∧ acsEnd s L < s.size := by
  refine Acs.ind (M := fun i L j ok => ok = true → L ≠ [] ∧ j = acsEnd s L + 1 ∧ bt s (acsEnd s L) = 59 ∧ No s 59 i (acsEnd s L) ∧ i ≤ acsEnd s L ∧ acsEnd s L < s.size) ?_ ?_ ?_ ?_ ?_ h
  · intro _ _
    intro h; cases h
  · intro _ _ _
    intro h; cases h
  · intro i' _ h he
    intro _; exact ⟨by simp, rfl, he, .bare (by decide) (ac_bare h), by simp [acsEnd], lt_of_bt (by show bt s (i' + acLen s i') ≠ 0; omega)⟩
  · intro _ _ _ _ _
    intro h; cases h
  · intro i' L' j' _ _ h he hn ih
    intro e
    obtain ⟨h1, h2, h3, h4, h5, h6⟩ := ih e
    have hd : acsEnd s (i' :: L') = acsEnd s L' := by unfold acsEnd; rw [lastD_cons i' h1]
    rw [hd]
    exact ⟨by simp, h2, h3, ((No.bare (by decide) (ac_bare h)).trans (.one (by rw [he]; decide))).trans h4, by omega, h6⟩

theorem cutR_no {s : ByteArray} {a : Int} : ∀ (m n f i : Nat), No s a i (i + m) → cutR s a a (m + n) f i = cutR s a a n f (i + m)
  | 0, n, f, i, _ => by simp
  | m + 1, n, f, i, h => by
    have h0 := h i (by omega) (by omega)
    rw [show m + 1 + n = (m + n) + 1 by omega, cutR, if_neg (by rintro (e | e) <;> exact h0 e), cutR_no m n f (i + 1) (fun q h1 h2 => h q (by omega) (by omega)), show i + 1 + m = i + (m + 1) by omega]

/-- What is known of a rule that was read. -/
structure RuleOk (s : ByteArray) (r : RuleP) : Prop where
  dig : digB (bt s r.1) = true
  colon : bt s (r.1 + 1) = 58
  conds : Cds s (r.1 + 2) r.2.1 (cdsEnd s r.2.1 + 1) true
  acts : Acs s (cdsEnd s r.2.1 + 1) r.2.2 (acsEnd s r.2.2 + 1) true
theorem RuleOk.of {s : ByteArray} {i : Nat} {L K : List Nat} {j : Nat} (h : Rul s i L K j true) : RuleOk s (i, L, K) ∧ j = acsEnd s K + 1 := by
  obtain ⟨j1, hd, h1, hc, ha⟩ := h.yes
  have e1 := (cds_end hc rfl).2.1
  have e2 := (acs_end ha rfl).2.1
  subst e1 e2
  exact ⟨⟨hd, h1, hc, ha⟩, rfl⟩
theorem dig_ne {c : Int} (h : digB c = true) : c ≠ 59 ∧ c ≠ 62 := by
  simp only [digB, decide_eq_true_eq] at h; omega
theorem RuleOk.no59 {s : ByteArray} {r : RuleP} (h : RuleOk s r) : No s 59 r.1 (acsEnd s r.2.2) := by
  have hc := cds_end h.conds rfl
  have ha := acs_end h.acts rfl
  exact ((((No.one (dig_ne h.dig).1).trans (.one (by rw [h.colon]; decide))).trans hc.2.2.2.2.1).trans (.one (by rw [hc.2.2.1]; decide))).trans ha.2.2.2.1
theorem RuleOk.no62 {s : ByteArray} {r : RuleP} (h : RuleOk s r) : No s 62 r.1 (cdsEnd s r.2.1) := by
  have hc := cds_end h.conds rfl
  exact ((No.one (dig_ne h.dig).2).trans (.one (by rw [h.colon]; decide))).trans hc.2.2.2.1
theorem rls_cut {s : ByteArray} {i : Nat} {R : List RuleP} {j : Nat} {ok : Bool} (h : Rls s i R j ok) : ok = true → cutR s 59 59 (j - i) i i = (R.map fun r => (r.1, acsEnd s r.2.2)) ∧ ∀ r ∈ R, RuleOk s r := by
  refine Rls.ind (M := fun i R j ok => ok = true → cutR s 59 59 (j - i) i i = (R.map fun r => (r.1, acsEnd s r.2.2)) ∧ ∀ r ∈ R, RuleOk s r) ?_ ?_ ?_ h
  · intro _ _
    intro _; simp [cutR]
  · intro _ _ _ _ _ _
    intro h; cases h
  · intro i' L K j1 R' j' _ hi h hn ih
    intro e
    obtain ⟨hk, hj⟩ := RuleOk.of h
    obtain ⟨e1, e2⟩ := ih e
    have hle := Rls_len hn
    have ha := acs_end hk.acts rfl
    have hc := cds_end hk.conds rfl
    have h1 : i' + 2 ≤ cdsEnd s L := hc.2.2.2.2.2
    have h2 : cdsEnd s L + 1 ≤ acsEnd s K := ha.2.2.2.2.1
    have h3 : bt s (acsEnd s K) = 59 := ha.2.2.1
    have hno : No s 59 i' (acsEnd s K) := hk.no59
    subst hj
    refine ⟨?_, ?_⟩
    · rw [show j' - i' = (acsEnd s K - i') + ((j' - (acsEnd s K + 1)) + 1) by omega, cutR_no _ _ _ _ (by rw [show i' + (acsEnd s K - i') = acsEnd s K by omega]; exact hno), show i' + (acsEnd s K - i') = acsEnd s K by omega, cutR, if_pos (.inl h3), e1]
      rfl
    · intro r hr
      rcases List.mem_cons.mp hr with rfl | hr
      · exact hk
      · exact e2 r hr

end Go.Proofs.YthlhbjnkohinmaaGreat
