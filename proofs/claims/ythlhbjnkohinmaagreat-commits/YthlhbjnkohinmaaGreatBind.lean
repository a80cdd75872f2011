/- Plain mathematics: the program's check of bound variables and of numbers against the document's. -/
import Derived.Test.YthlhbjnkohinmaaGreatRefWhA
namespace Go.Proofs.YthlhbjnkohinmaaGreat

theorem opK_let {c : Int} (h : letB c = true) : opK c = 2 ∧ opV c = c - 119 ∧ 119 ≤ c ∧ c ≤ 122 := by
  have h1 : 119 ≤ c ∧ c ≤ 122 := by simpa [letB] using h
  have h2 : digB c = false := by simp [digB]; omega
  exact ⟨by simp [opK, h, h2], by simp [opV, h, h2], h1.1, h1.2⟩
theorem opK_nolet {c : Int} (h : letB c = false) : ¬ opK c = 2 := by
  unfold opK
  split
  · omega
  · simp [h]

/-- The program's four bits say what stands in the patterns ahead. -/
def Fits (s : ByteArray) (L : List Nat) (bs : Nat → Bool) : Prop := ∀ n : Nat, n < 4 → bs n = amongB s L (119 + n)

theorem addT_op (bs : Nat → Bool) (c : Int) (n : Nat) (hn : n < 4) : addT bs (opK c) (opV c) n = (bs n || (c == 119 + (n : Int))) := by
  unfold addT
  cases hl : letB c with
  | true =>
    obtain ⟨e1, e2, h1, h2⟩ := opK_let hl
    rw [e1, e2]
    simp only [decide_true, Bool.true_and]
    congr 1
    rw [Bool.eq_iff_iff]
    simp only [decide_eq_true_eq, beq_iff_eq]
    omega
  | false =>
    have := opK_nolet hl
    have h1 : ¬ (119 ≤ c ∧ c ≤ 122) := by simpa [letB] using hl
    have h2 : (c == 119 + (n : Int)) = false := by simp; omega
    simp [this, h2]
theorem lackT_op {s : ByteArray} {L : List Nat} {bs : Nat → Bool} (hf : Fits s L bs) (c : Int) : lackT bs (opK c) (opV c) = !(boundAt s L c) := by
  unfold lackT boundAt
  cases hl : letB c with
  | true =>
    obtain ⟨e1, e2, h1, h2⟩ := opK_let hl
    rw [e1, e2, hf (c - 119).toNat (by omega), show (119 : Int) + ((c - 119).toNat : Int) = c by omega]
    simp
  | false =>
    simp [opK_nolet hl]

theorem cls_kind {s : ByteArray} {p : Nat} (_h : cdOk s p = true) : (cdV s p).k = 1 ↔ clsB (bt s p) = true := by
  unfold cdV
  by_cases h33 : bt s p = 33
  · simp only [h33, if_true, patV]
    constructor
    · intro h; omega
    · intro h; exact absurd h (by decide)
  · by_cases hc : clsB (bt s p) = true
    · simp [h33, hc, patV]
    · simp [h33, hc, tstV]
theorem patCount_eq {s : ByteArray} {L : List Nat} (h : ∀ p ∈ L, cdOk s p = true) : patCount s L = patCountR s L := by
  unfold patCount patCountR
  congr 1
  apply List.filter_congr
  intro p hp
  have := cls_kind (h p hp)
  rw [Bool.eq_iff_iff]
  simpa using this

theorem fits_add {s : ByteArray} {L : List Nat} {bs : Nat → Bool} {p : Nat} (hf : Fits s L bs) (_h : cdOk s p = true) (hc : clsB (bt s p) = true) : Fits s (L ++ [p]) (cdAdd s p bs) := by
  intro n hn
  have h33 : ¬ bt s p = 33 := by intro e; rw [e] at hc; exact absurd hc (by decide)
  have e : cdV s p = patV 1 s p := by simp [cdV, h33, hc]
  unfold cdAdd
  rw [e]
  simp only [patV]
  rw [addT_op _ _ n hn, addT_op _ _ n hn, hf n hn]
  unfold amongB
  rw [List.any_append]
  simp [hc, Bool.or_assoc]
theorem fits_skip {s : ByteArray} {L : List Nat} {bs : Nat → Bool} {p : Nat} (hf : Fits s L bs) (hc : clsB (bt s p) = false) : Fits s (L ++ [p]) bs := by
  intro n hn
  rw [hf n hn]
  unfold amongB
  rw [List.any_append]
  simp [hc]

theorem bAt_cls {s : ByteArray} {L : List Nat} {c : Int} (h : clsB c = true) : boundAt s L c = true := by
  have h1 : 97 ≤ c ∧ c ≤ 102 := by simpa [clsB] using h
  have : letB c = false := by simp [letB]; omega
  simp [boundAt, this]
theorem bAt_sgn {s : ByteArray} {L : List Nat} {c : Int} (h : sgnB c = true) : boundAt s L c = true := by
  have h1 : (c = 60 ∨ c = 61) ∨ c = 35 := by simpa [sgnB] using h
  have : letB c = false := by simp [letB]; omega
  simp [boundAt, this]
theorem bAt_tur {s : ByteArray} {L : List Nat} {c : Int} (h : turB c = true) : boundAt s L c = true := by
  have h1 : c = 94 ∨ c = 126 := by simpa [turB] using h
  have : letB c = false := by simp [letB]; omega
  simp [boundAt, this]
theorem bT3 (s : ByteArray) (L : List Nat) (p : Nat) : boundT s L p 3 = (boundAt s L (bt s p) && boundAt s L (bt s (p + 1)) && boundAt s L (bt s (p + 2))) := by
  rw [boundT_succ, boundT_succ, boundT_succ]; simp [boundT]
theorem bT4 (s : ByteArray) (L : List Nat) (p : Nat) : boundT s L p 4 = (boundAt s L (bt s p) && boundAt s L (bt s (p + 1)) && boundAt s L (bt s (p + 2)) && boundAt s L (bt s (p + 3))) := by
  rw [boundT_succ, bT3]

theorem pat_cls {s : ByteArray} {i : Nat} (h : patLen s i = 3) : clsB (bt s i) = true := by
  unfold patLen at h; split at h
  · assumption
  · omega
theorem tst_sgn {s : ByteArray} {i : Nat} (h : tstLen s i = 3) : sgnB (bt s (i + 1)) = true := by
  unfold tstLen at h; split at h
  · split at h
    · assumption
    · omega
  · omega
/-- A condition that is no pattern lacks a variable just if the document says so. -/
theorem cd_lack {s : ByteArray} {L : List Nat} {bs : Nat → Bool} {p : Nat} (hf : Fits s L bs) (h : cdOk s p = true) (hc : clsB (bt s p) = false) : cdLack s p bs = !(boundT s L p (cdLen s p)) := by
  unfold cdLack
  by_cases h33 : bt s p = 33
  · have hp : patLen s (p + 1) = 3 := by simpa [cdOk, h33] using h
    have e : cdV s p = patV 2 s (p + 1) := by simp [cdV, h33]
    have el : cdLen s p = 4 := by simp [cdLen, h33, hp]
    have h0 : boundAt s L 33 = true := by simp [boundAt, show letB 33 = false by decide]
    rw [e, el, bT4]
    simp only [patV]
    rw [lackT_op hf, lackT_op hf, h33, h0, bAt_cls (pat_cls hp)]
    simp [show p + 1 + 1 = p + 2 by omega, show p + 1 + 2 = p + 3 by omega, Bool.not_and]
  · have hp : tstLen s p = 3 := by simpa [cdOk, h33, hc] using h
    have e : cdV s p = tstV s p := by simp [cdV, h33, hc]
    have el : cdLen s p = 3 := by simp [cdLen, h33, hc, hp]
    rw [e, el, bT3]
    simp only [tstV]
    rw [lackT_op hf, lackT_op hf, bAt_sgn (tst_sgn hp)]
    simp [Bool.not_and]

theorem ex_bound {s : ByteArray} {L : List Nat} {p n : Nat} : boundT s L p (n + (exJ s (p + n) - (p + n))) = (boundT s L p n && boundAt s L (bt s (p + n))) := by
  unfold exJ
  split
  · rename_i ht
    rw [show n + (p + n + 2 - (p + n)) = n + 1 + 1 by omega, boundT_succ, boundT_succ, show p + (n + 1) = p + n + 1 by omega, bAt_tur ht, Bool.and_true]
  · rw [show n + (p + n + 1 - (p + n)) = n + 1 by omega, boundT_succ]
theorem ac_lack {s : ByteArray} {L : List Nat} {bs : Nat → Bool} {p : Nat} (hf : Fits s L bs) (h : acOk s p = true) : acLack s p bs = !(boundT s L p (acLen s p)) := by
  unfold acLack
  have hsm : ∀ c : Int, letB c = false → boundAt s L c = true := fun c hc => by simp [boundAt, hc]
  unfold acOk at h
  by_cases h43 : bt s p = 43
  · simp only [h43, if_true] at h
    have hh := h
    simp only [filOk, Bool.and_eq_true] at h
    obtain ⟨⟨h0, h1⟩, h2⟩ := h
    have hj := exJ_gt s (p + 2)
    have hj2 := exJ_gt s (exJ s (p + 2))
    have e : acV s p = filV s (p + 1) := by simp [acV, h43]
    have e1 : exJ s (p + 1 + 1) = exJ s (p + 2) := rfl
    have el : acLen s p = (2 + (exJ s (p + 2) - (p + 2))) + (exJ s (exJ s (p + 2)) - exJ s (p + 2)) := by
      simp only [acLen, h43, if_true, filLen, h0, h1, h2, e1]; omega
    have hb : boundT s L p (acLen s p) = (boundAt s L (bt s (p + 2)) && boundAt s L (bt s (exJ s (p + 2)))) := by
      have x1 := ex_bound (s := s) (L := L) (p := p) (n := 2)
      have x2 := ex_bound (s := s) (L := L) (p := p) (n := 2 + (exJ s (p + 2) - (p + 2)))
      rw [show p + (2 + (exJ s (p + 2) - (p + 2))) = exJ s (p + 2) by omega] at x2
      rw [el, x2, x1, boundT_succ, boundT_succ, Nat.add_zero, h43, hsm 43 (by decide), bAt_cls h0]
      simp [boundT]
    rw [hb, e]
    simp only [filV]
    rw [lackT_op hf, lackT_op hf]
    simp only [Bool.not_and, e1]
  · by_cases h45 : bt s p = 45
    · simp only [h45, if_true, show ¬ (45 : Int) = 43 by decide, if_false] at h
      simp only [empOk, Bool.and_eq_true] at h
      obtain ⟨h0, h1⟩ := h
      have hj := exJ_gt s (p + 2)
      have e : acV s p = empV s (p + 1) := by simp [acV, h45]
      have e1 : exJ s (p + 1 + 1) = exJ s (p + 2) := rfl
      have el : acLen s p = 2 + (exJ s (p + 2) - (p + 2)) := by
        simp only [acLen, h45, if_true, show ¬ (45 : Int) = 43 by decide, if_false, empLen, h0, h1, e1]; omega
      have hb : boundT s L p (acLen s p) = boundAt s L (bt s (p + 2)) := by
        rw [el, ex_bound, boundT_succ, boundT_succ, Nat.add_zero, h45, hsm 45 (by decide), bAt_cls h0]
        simp [boundT]
      rw [hb, e]
      simp only [empV]
      rw [lackT_op hf]
      simp [lackT]
    · have h46 : bt s p = 46 := by simpa [h43, h45] using h
      have e : acV s p = ⟨3, 0, 0, 0, 0, 0, 0, 0⟩ := by simp [acV, h43, h45]
      have el : acLen s p = 1 := by simp [acLen, h46]
      rw [el, e, boundT_succ, Nat.add_zero, h46, hsm 46 (by decide)]
      simp [lackT, boundT]

theorem bound_step {s : ByteArray} {L : List Nat} (hL : ∀ p ∈ L, cdOk s p = true) : ∀ n, n ≤ L.length → (∃ bs, cdsBound s (L.take n) (fun _ => false) = some bs ∧ Fits s (L.take n) bs ∧ wholeN s L n = true) ∨ (cdsBound s (L.take n) (fun _ => false) = none ∧ wholeN s L n = false)
  | 0, _ => .inl ⟨_, rfl, fun n _ => rfl, rfl⟩
  | n + 1, h => by
    have hlt : n < L.length := by omega
    have hok := hL L[n] (List.getElem_mem hlt)
    have hgd : L.getD n 0 = L[n] := by simp [List.getD, hlt]
    have ht : L.take (n + 1) = L.take n ++ [L[n]] := List.take_succ_eq_append_getElem hlt
    rcases bound_step hL n (by omega) with ⟨bs, h1, h2, h3⟩ | ⟨h1, h2⟩
    · rw [cdsBound_take hlt h1, wholeN_succ, h3, Bool.true_and, wholeAt, hgd]
      by_cases hc : clsB (bt s L[n]) = true
      · rw [if_pos ((cls_kind hok).mpr hc)]
        exact .inl ⟨_, rfl, by rw [ht]; exact fits_add h2 hok hc, by simp [hc]⟩
      · have hc' : clsB (bt s L[n]) = false := by simpa using hc
        rw [if_neg (fun e => hc ((cls_kind hok).mp e)), cd_lack h2 hok hc', hc', Bool.false_or]
        cases hb : boundT s (L.take n) L[n] (cdLen s L[n]) with
        | true => exact .inl ⟨bs, rfl, by rw [ht]; exact fits_skip h2 hc', rfl⟩
        | false => exact .inr ⟨rfl, rfl⟩
    · right
      constructor
      · rw [ht, cdsBound_append, h1]; rfl
      · rw [wholeN_succ, h2]; rfl

theorem unb_whole {s : ByteArray} {L K : List Nat} (hL : ∀ p ∈ L, cdOk s p = true) (hK : ∀ p ∈ K, acOk s p = true) : unbB s L K = !(wholeB s L K) := by
  unfold unbB wholeB
  rcases bound_step hL L.length (Nat.le_refl _) with ⟨bs, h1, h2, h3⟩ | ⟨h1, h2⟩
  · rw [List.take_of_length_le (Nat.le_refl _)] at h1 h2
    rw [h1, h3]
    simp only [Bool.true_and]
    unfold acsLack wholeA
    rw [Bool.eq_iff_iff]
    simp only [List.any_eq_true, Bool.not_eq_true', List.all_eq_false]
    constructor
    · rintro ⟨p, hp, hx⟩
      exact ⟨p, hp, by rw [ac_lack h2 (hK p hp)] at hx; simpa using hx⟩
    · rintro ⟨p, hp, hx⟩
      exact ⟨p, hp, by rw [ac_lack h2 (hK p hp)]; simpa using hx⟩
  · rw [List.take_of_length_le (Nat.le_refl _)] at h1
    rw [h1, h2]; rfl

theorem cds_all {s : ByteArray} {i : Nat} {L : List Nat} {j : Nat} {ok : Bool} (h : Cds s i L j ok) : ok = true → ∀ p ∈ L, cdOk s p = true := by
  refine Cds.ind (M := fun i L j ok => ok = true → ∀ p ∈ L, cdOk s p = true) ?_ ?_ ?_ ?_ ?_ h
  · intro _ _
    intro h; cases h
  · intro _ _ _
    intro h; cases h
  · intro _ _ h _
    intro _ p hp; rw [List.mem_singleton.mp hp]; exact h
  · intro _ _ _ _ _
    intro h; cases h
  · intro _ _ _ _ _ h _ _ ih
    intro e p hp
    rcases List.mem_cons.mp hp with rfl | hp
    · exact h
    · exact ih e p hp
theorem acs_all {s : ByteArray} {i : Nat} {L : List Nat} {j : Nat} {ok : Bool} (h : Acs s i L j ok) : ok = true → ∀ p ∈ L, acOk s p = true ∧ p + acLen s p ≤ s.size := by
  refine Acs.ind (M := fun i L j ok => ok = true → ∀ p ∈ L, acOk s p = true ∧ p + acLen s p ≤ s.size) ?_ ?_ ?_ ?_ ?_ h
  · intro _ _
    intro h; cases h
  · intro _ _ _
    intro h; cases h
  · intro _ hi h _
    intro _ p hp; rw [List.mem_singleton.mp hp]; exact ⟨h, acLen_le hi⟩
  · intro _ _ _ _ _
    intro h; cases h
  · intro _ _ _ _ hi h _ _ ih
    intro e p hp
    rcases List.mem_cons.mp hp with rfl | hp
    · exact ⟨h, acLen_le hi⟩
    · exact ih e p hp
theorem cds_len {s : ByteArray} {i : Nat} {L : List Nat} {j : Nat} {ok : Bool} (h : Cds s i L j ok) : ok = true → i + L.length ≤ j := by
  refine Cds.ind (M := fun i L j ok => ok = true → i + L.length ≤ j) ?_ ?_ ?_ ?_ ?_ h
  · intro _ _
    intro h; cases h
  · intro _ _ _
    intro h; cases h
  · intro _ _ _ _
    intro _; simp
  · intro _ _ _ _ _
    intro h; cases h
  · intro _ _ _ _ _ _ _ _ ih
    intro e; have := ih e; simp; omega
theorem acs_len {s : ByteArray} {i : Nat} {L : List Nat} {j : Nat} {ok : Bool} (h : Acs s i L j ok) : ok = true → i + L.length ≤ j := by
  refine Acs.ind (M := fun i L j ok => ok = true → i + L.length ≤ j) ?_ ?_ ?_ ?_ ?_ h
  · intro _ _
    intro h; cases h
  · intro _ _ _
    intro h; cases h
  · intro _ _ _ _
    intro _; simp
  · intro _ _ _ _ _
    intro h; cases h
  · intro _ _ _ _ _ _ _ _ ih
    intro e; have := ih e; simp; omega

end Go.Proofs.YthlhbjnkohinmaaGreat
