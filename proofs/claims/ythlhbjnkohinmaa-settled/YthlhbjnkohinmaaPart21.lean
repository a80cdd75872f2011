import Derived.Test.YthlhbjnkohinmaaPart19
import Derived.Test.YthlhbjnkohinmaaRead
/- What a session sees and matches is its own: plain. -/
namespace Go.Proofs.Ythlhbjnkohinmaa
open Go.RowKit

theorem old_le_latest (X : PEng) : ∀ m, oldN X m ≤ X.latest
  | 0 => Int.le_refl _
  | m + 1 => by
    have := old_le_latest X m
    unfold oldN
    split
    · rename_i h; omega
    · exact this
theorem old_le {X : PEng} {k : Nat} (hn : 0 < (X.ses k).num) : ∀ m, k < m → oldN X m ≤ (X.ses k).snap
  | 0, h => by omega
  | m + 1, h => by
    have h0 : oldN X (m + 1) = if 0 < (X.ses m).num ∧ (X.ses m).snap < oldN X m then (X.ses m).snap else oldN X m := rfl
    by_cases e : k = m
    · subst e
      rw [h0]
      split
      · exact Int.le_refl _
      · rename_i hc
        omega
    · have ih := old_le hn m (by omega)
      rw [h0]
      split
      · rename_i hc; omega
      · exact ih
/-- The session at place k sees and remembers in the second what it does in the first. -/
structure Pict (k : Nat) (X : PEng) (F : Mks) (X' : PEng) (F' : Mks) : Prop where
  ses : X'.ses k = X.ses k
  mrk : F' k = F k
  his : ∀ c, SeenEq (histV (X'.hist c) (X.ses k).snap) (histV (X.hist c) (X.ses k).snap)
theorem Pict.refl (k : Nat) (X : PEng) (F : Mks) : Pict k X F X F := ⟨rfl, rfl, fun _ => .refl _⟩
theorem Pict.trans {k : Nat} {X X' X'' : PEng} {F F' F'' : Mks} (h : Pict k X F X' F') (g : Pict k X' F' X'' F'') : Pict k X F X'' F'' :=
  ⟨g.ses.trans h.ses, g.mrk.trans h.mrk, fun c => by
    have := g.his c
    rw [h.ses] at this
    exact this.trans (h.his c)⟩
theorem Pict.next {k : Nat} {X X' : PEng} {F : Mks} (hs : X'.ses k = X.ses k) (hh : ∀ c, SeenEq (histV (X'.hist c) (X.ses k).snap) (histV (X.hist c) (X.ses k).snap)) : Pict k X F X' (nextF X X' F) :=
  ⟨hs, by unfold nextF; rw [hs, if_pos rfl], hh⟩
theorem Pict.other {k j : Nat} {X X' : PEng} {F : Mks} {S : PSes} (hj : k ≠ j) (hs : X'.ses = upd X.ses j S) (hh : X'.hist = X.hist) : Pict k X F X' (nextF X X' F) :=
  .next (by rw [hs, upd_ne _ _ _ hj]) (fun c => by rw [hh]; exact .refl _)
theorem Pict.idle {k : Nat} {X : PEng} {F : Mks} : Pict k X F X (nextF X X F) := .next rfl (fun _ => .refl _)
theorem swept_pict {i : Nat} {X : PEng} (h : Fit i X) {k : Nat} (hk : k < 8) (hn : 0 < (X.ses k).num) (c : Nat) : SeenEq (histV ((X.swept (oldN X 8)).hist c) (X.ses k).snap) (histV (X.hist c) (X.ses k).snap) :=
  swept_seen (h.inc c) (old_le hn 8 hk)
theorem room_pict {i : Nat} {X : PEng} (h : Fit i X) {k : Nat} (hk : k < 8) (hn : 0 < (X.ses k).num) (m : Nat) (c : Nat) : SeenEq (histV ((roomF X m).2.hist c) (X.ses k).snap) (histV (X.hist c) (X.ses k).snap) := by
  unfold roomF
  split
  · exact .refl _
  · exact swept_pict h hk hn c
theorem pict_act {i : Nat} {X : PEng} (hg : Fit i X) (F : Mks) {k : Nat} (hk : k < 8) {n : Int} (hn : (X.ses k).num = n) (h1 : 1 ≤ n) (kd b c : Int) (s : ByteArray) (hb : b ≠ n) : Pict k X F (pact X F kd b c s).2.1 (pact X F kd b c s).2.2 := by
  have hne : ∀ j, findP X b = some j → k ≠ j := fun j hf e => by
    obtain ⟨_, h2, _⟩ := findP_spec hf
    subst e
    exact hb (by rw [← h2, hn])
  rcases kind_cases kd with h0 | rfl | rfl | rfl | rfl | rfl | rfl | rfl | rfl | rfl | rfl
  · rw [pact_none _ _ _ _ _ _ h0]; exact .refl _ _ _
  · rw [pact_open]
    unfold popenF
    cases hf : numberedP X 0 with
    | none => exact .idle
    | some j =>
      obtain ⟨_, h2⟩ := numberedP_some hf
      exact .other (j := j) (fun e => by subst e; omega) rfl rfl
  · rw [pact_put]
    unfold pputF
    cases hf : findP X b with
    | none => exact .idle
    | some j =>
      cases factB s with
      | false => exact .idle
      | true => exact .other (hne j hf) rfl rfl
  · rw [pact_clear]
    unfold pclearF
    cases hf : findP X b with
    | none => exact .idle
    | some j =>
      cases cellB s with
      | false => exact .idle
      | true => exact .other (hne j hf) rfl rfl
  · exact .refl _ _ _
  · rw [pact_abort]
    unfold pabortF
    cases hf : findP X b with
    | none => exact .idle
    | some j => exact .other (hne j hf) rfl rfl
  · rw [pact_commit]
    unfold pcommitG
    cases hf : findP X b with
    | none => exact .idle
    | some j =>
      simp only []
      cases hasW (X.ses j) with
      | false => exact .other (hne j hf) rfl rfl
      | true =>
        cases clash X (X.ses j) with
        | true => exact .other (hne j hf) rfl rfl
        | false =>
          obtain ⟨_, _, _, r4⟩ := room_plain X (writN (X.ses j) 60)
          have hr := room_pict hg hk (by omega) (writN (X.ses j) 60)
          cases (roomF X (writN (X.ses j) 60)).1 with
          | false => exact .next (by show (roomF X (writN (X.ses j) 60)).2.ses k = _; rw [r4]) hr
          | true =>
            refine .next ?_ (fun c => ?_)
            · show upd (roomF X (writN (X.ses j) 60)).2.ses j .zero k = _
              rw [r4, upd_ne _ _ _ (hne j hf)]
            · have hsn := hg.snap k hk
              have hl : (roomF X (writN (X.ses j) 60)).2.latest = X.latest := by
                unfold roomF
                split <;> rfl
              show SeenEq (histV (match (X.ses j).wr c with | some v => (roomF X (writN (X.ses j) 60)).2.hist c ++ [((roomF X (writN (X.ses j) 60)).2.latest + 1, v)] | none => (roomF X (writN (X.ses j) 60)).2.hist c) (X.ses k).snap) _
              cases (X.ses j).wr c with
              | none => exact hr c
              | some v =>
                simp only []
                rw [histV_snoc, if_neg (by rw [hl]; show ¬ X.latest + 1 ≤ _; omega)]
                exact hr c
  · exact .refl _ _ _
  · rw [pact_run]
    unfold prunE
    cases hf : findP X b with
    | none => exact .refl _ _ _
    | some j =>
      simp only []
      split
      · refine ⟨?_, ?_, fun _ => .refl _⟩
        · show upd X.ses j _ k = _
          rw [upd_ne _ _ _ (hne j hf)]
        · show upd F j _ k = _
          rw [upd_ne _ _ _ (hne j hf)]
      · exact .refl _ _ _
  · exact .refl _ _ _
  · rw [pact_sweep]
    exact .next rfl (fun c => swept_pict hg hk (by omega) c)

theorem Fit.finds {i : Nat} {X : PEng} (h : Fit i X) {k : Nat} (hk : k < 8) {n : Int} (hn : (X.ses k).num = n) (h1 : 1 ≤ n) : findP X n = some k := by
  unfold findP
  rw [if_neg (by omega)]
  cases hf : numberedP X n with
  | none => exact absurd hn (numberedP_none hf k hk)
  | some j =>
    obtain ⟨hj, h2⟩ := numberedP_some hf
    rcases h.uniq j k hj hk (by rw [h2, hn]) with h3 | h3
    · omega
    · rw [h3]
theorem Pict.seen {k : Nat} {X X' : PEng} {F F' : Mks} (h : Pict k X F X' F') (c : Nat) : seenP X' k c = seenP X k c := by
  unfold seenP
  rw [h.ses]
  cases (X.ses k).wr c with
  | some v => rfl
  | none =>
    simp only []
    rw [← histV_two, ← histV_two]
    exact (h.his c).1
theorem Pict.view {k : Nat} {X X' : PEng} {F F' : Mks} (h : Pict k X F X' F') {n : Int} (hf : findP X n = some k) (hf' : findP X' n = some k) : pviewF X' n = pviewF X n := by
  unfold pviewF
  rw [hf, hf']
  simp only []
  unfold viewP
  congr 2
  apply filterMap_same
  intro c _
  rw [h.seen c]
theorem Pict.saw {k : Nat} {X X' : PEng} {F F' : Mks} (h : Pict k X F X' F') : sawX X' k = sawX X k := by
  unfold sawX sawN
  apply filterMap_same
  intro c _
  unfold seenT
  rw [h.ses]
  cases (X.ses k).wr c with
  | some v => rfl
  | none =>
    simp only []
    obtain ⟨h1, h2⟩ := h.his c
    cases hv : (histV (X'.hist c) (X.ses k).snap).2 with
    | none =>
      rw [hv] at h1
      rw [← h1]
      rfl
    | some v =>
      have := h2 (by rw [hv]; rfl)
      rw [← this, hv]
theorem Pict.mat {k : Nat} {X X' : PEng} {F F' : Mks} (h : Pict k X F X' F') (hsrc : X'.src = X.src) {n : Int} (hf : findP X n = some k) (hf' : findP X' n = some k) : pmatE X' F' n = pmatE X F n := by
  unfold pmatE
  rw [hf, hf']
  simp only []
  rw [hsrc, h.saw, h.mrk]

/-- A session's own writes and runs leave it open. -/
theorem mine_num {X : PEng} (F : Mks) {k : Nat} (kd b c : Int) (s : ByteArray) (hR : RulesP X.src.2.1 X.src.2.2) {i : Nat} (hg : Fit i X) (hkd : kd = 2 ∨ kd = 3 ∨ kd = 8) : ((pact X F kd b c s).2.1.ses k).num = (X.ses k).num := by
  have hupd : ∀ j (S : PSes), S.num = (X.ses j).num → (upd X.ses j S k).num = (X.ses k).num := fun j S e => by
    unfold upd
    split
    · rename_i h; rw [e, h]
    · rfl
  rcases hkd with rfl | rfl | rfl
  · rw [pact_put]
    unfold pputF
    cases hf : findP X b with
    | none => rfl
    | some j =>
      cases factB s with
      | false => rfl
      | true => exact hupd j _ rfl
  · rw [pact_clear]
    unfold pclearF
    cases hf : findP X b with
    | none => rfl
    | some j =>
      cases cellB s with
      | false => rfl
      | true => exact hupd j _ rfl
  · rw [pact_run]
    unfold prunE
    cases hf : findP X b with
    | none => rfl
    | some j =>
      simp only []
      split
      · exact hupd j _ (runS_ok hR _ _ _ (hg.wok (findP_spec hf).1)).num
      · rfl

end Go.Proofs.Ythlhbjnkohinmaa

/- Plain: the rules' texts have no sign that parts within, where there is no document. -/
namespace Go.Proofs.Ythlhbjnkohinmaa

def sepB (c : Int) : Bool := c == 44 || c == 59 || c == 62
theorem cls_sep {c : Int} (h : clsB c = true) : sepB c = false := by
  simp only [clsB, decide_eq_true_eq] at h
  simp only [sepB, Bool.or_eq_false_iff, beq_eq_false_iff_ne]; omega
theorem sim_sep {c : Int} (h : simB c = true) : sepB c = false := by
  simp only [simB, digB, letB, Bool.or_eq_true, decide_eq_true_eq] at h
  simp only [sepB, Bool.or_eq_false_iff, beq_eq_false_iff_ne]; omega
theorem ter_sep {c : Int} (h : terB c = true) : sepB c = false := by
  simp only [terB, simB, digB, letB, Bool.or_eq_true, decide_eq_true_eq, beq_iff_eq] at h
  simp only [sepB, Bool.or_eq_false_iff, beq_eq_false_iff_ne]; omega
theorem sgn_sep {c : Int} (h : sgnB c = true) : sepB c = false := by
  simp only [sgnB, Bool.or_eq_true, beq_iff_eq] at h
  simp only [sepB, Bool.or_eq_false_iff, beq_eq_false_iff_ne]; omega
theorem tur_sep {c : Int} (h : turB c = true) : sepB c = false := by
  simp only [turB, Bool.or_eq_true, beq_iff_eq] at h
  simp only [sepB, Bool.or_eq_false_iff, beq_eq_false_iff_ne]; omega

/-- From i to j there is no sign that parts. -/
def Bare (s : ByteArray) (i j : Nat) : Prop := ∀ q, i ≤ q → q < j → sepB (bt s q) = false
theorem Bare.nil (s : ByteArray) (i : Nat) : Bare s i i := fun q h1 h2 => by omega
theorem Bare.one {s : ByteArray} {i : Nat} (h : sepB (bt s i) = false) : Bare s i (i + 1) := fun q h1 h2 => by rw [show q = i by omega]; exact h
theorem Bare.trans {s : ByteArray} {i j k : Nat} (h : Bare s i j) (g : Bare s j k) : Bare s i k := fun q h1 h2 => by
  by_cases hq : q < j
  · exact h q h1 hq
  · exact g q (by omega) h2
theorem Bare.snoc {s : ByteArray} {i j : Nat} (h : Bare s i j) (g : sepB (bt s j) = false) : Bare s i (j + 1) := h.trans (.one g)

theorem pat_bare {s : ByteArray} {i : Nat} (h : patLen s i = 3) : Bare s i (i + 3) := by
  unfold patLen at h
  split at h
  · split at h
    · split at h
      · rename_i h0 h1 h2
        exact ((Bare.one (cls_sep h0)).snoc (ter_sep h1)).snoc (ter_sep h2)
      · omega
    · omega
  · omega
theorem tst_bare {s : ByteArray} {i : Nat} (h : tstLen s i = 3) : Bare s i (i + 3) := by
  unfold tstLen at h
  split at h
  · split at h
    · split at h
      · rename_i h0 h1 h2
        exact ((Bare.one (sim_sep h0)).snoc (sgn_sep h1)).snoc (sim_sep h2)
      · omega
    · omega
  · omega
theorem cd_bare {s : ByteArray} {i : Nat} (h : cdOk s i = true) : Bare s i (i + cdLen s i) := by
  unfold cdOk at h; unfold cdLen
  by_cases h33 : bt s i = 33
  · simp only [h33, if_true] at h ⊢
    have hp : patLen s (i + 1) = 3 := by simpa using h
    rw [hp]
    exact (Bare.one (by rw [h33]; decide)).trans (pat_bare hp)
  · by_cases hc : clsB (bt s i) = true
    · simp only [h33, hc, if_false, if_true] at h ⊢
      have hp : patLen s i = 3 := by simpa using h
      rw [hp]; exact pat_bare hp
    · simp only [h33, hc, if_false] at h ⊢
      have hp : tstLen s i = 3 := by simpa using h
      rw [hp]; exact tst_bare hp
theorem ex_bare {s : ByteArray} {i : Nat} (h : simB (bt s i) = true) : Bare s i (exJ s i) := by
  unfold exJ
  split
  · rename_i ht; exact (Bare.one (sim_sep h)).snoc (tur_sep ht)
  · exact Bare.one (sim_sep h)
theorem ac_bare {s : ByteArray} {i : Nat} (h : acOk s i = true) : Bare s i (i + acLen s i) := by
  unfold acOk at h; unfold acLen
  by_cases h43 : bt s i = 43
  · simp only [h43, if_true] at h ⊢
    simp only [filOk, Bool.and_eq_true] at h
    obtain ⟨⟨h0, h1⟩, h2⟩ := h
    have hj := exJ_gt s (i + 1 + 1)
    have hj2 := exJ_gt s (exJ s (i + 1 + 1))
    have e : i + (1 + filLen s (i + 1)) = exJ s (exJ s (i + 1 + 1)) := by simp [filLen, h0, h1, h2]; omega
    rw [e]
    exact (((Bare.one (by rw [h43]; decide)).snoc (cls_sep h0)).trans (ex_bare h1)).trans (ex_bare h2)
  · by_cases h45 : bt s i = 45
    · simp only [h45, if_true, show ¬ (45 : Int) = 43 by decide, if_false] at h ⊢
      simp only [empOk, Bool.and_eq_true] at h
      obtain ⟨h0, h1⟩ := h
      have hj := exJ_gt s (i + 1 + 1)
      have e : i + (1 + empLen s (i + 1)) = exJ s (i + 1 + 1) := by simp [empLen, h0, h1]; omega
      rw [e]
      exact ((Bare.one (by rw [h45]; decide)).snoc (cls_sep h0)).trans (ex_bare h1)
    · simp only [h43, h45, if_false, beq_iff_eq] at h
      simp only [h, if_true, show ¬ (46 : Int) = 43 by decide, show ¬ (46 : Int) = 45 by decide, if_false]
      exact Bare.one (by rw [h]; decide)

/-- Without 59 (59 and 62) from i to j. -/
def No (s : ByteArray) (c : Int) (i j : Nat) : Prop := ∀ q, i ≤ q → q < j → bt s q ≠ c
theorem No.trans {s : ByteArray} {c : Int} {i j k : Nat} (h : No s c i j) (g : No s c j k) : No s c i k := fun q h1 h2 => by
  by_cases hq : q < j
  · exact h q h1 hq
  · exact g q (by omega) h2
theorem No.one {s : ByteArray} {c : Int} {i : Nat} (h : bt s i ≠ c) : No s c i (i + 1) := fun q h1 h2 => by rw [show q = i by omega]; exact h
theorem No.bare {s : ByteArray} {c : Int} (hc : sepB c = true) {i j : Nat} (h : Bare s i j) : No s c i j := fun q h1 h2 e => by
  have := h q h1 h2; rw [e, hc] at this; cases this

def cdsEnd (s : ByteArray) (L : List Nat) : Nat := L.getLastD 0 + cdLen s (L.getLastD 0)
def acsEnd (s : ByteArray) (L : List Nat) : Nat := L.getLastD 0 + acLen s (L.getLastD 0)
theorem lastD_cons {L : List Nat} (a : Nat) (h : L ≠ []) : (a :: L).getLastD 0 = L.getLastD 0 := by
  cases L with
  | nil => exact absurd rfl h
  | cons b L => simp [List.getLastD]
theorem cds_end {s : ByteArray} {i : Nat} {L : List Nat} {j : Nat} {ok : Bool} (h : Cds s i L j ok) : ok = true → L ≠ [] ∧ j = cdsEnd s L + 1 ∧ bt s (cdsEnd s L) = 62 ∧ No s 62 i (cdsEnd s L) ∧ No s 59 i (cdsEnd s L) ∧ i ≤ cdsEnd s L := by
  refine Cds.ind (M := fun i L j ok => ok = true → L ≠ [] ∧ j = cdsEnd s L + 1 ∧ bt s (cdsEnd s L) = 62 ∧ No s 62 i (cdsEnd s L) ∧ No s 59 i (cdsEnd s L) ∧ i ≤ cdsEnd s L) ?_ ?_ ?_ ?_ ?_ h
  · intro _ _
    intro h; cases h
  · intro _ _ _
    intro h; cases h
  · intro i' _ h he
    intro _; exact ⟨by simp, rfl, he, .bare (by decide) (cd_bare h), .bare (by decide) (cd_bare h), by simp [cdsEnd]⟩
  · intro _ _ _ _ _
    intro h; cases h
  · intro i' L' j' _ _ h he hn ih
    intro e
    obtain ⟨h1, h2, h3, h4, h5, h6⟩ := ih e
    have hd : cdsEnd s (i' :: L') = cdsEnd s L' := by unfold cdsEnd; rw [lastD_cons i' h1]
    rw [hd]
    exact ⟨by simp, h2, h3, ((No.bare (by decide) (cd_bare h)).trans (.one (by rw [he]; decide))).trans h4, ((No.bare (by decide) (cd_bare h)).trans (.one (by rw [he]; decide))).trans h5, by omega⟩
theorem acs_end {s : ByteArray} {i : Nat} {L : List Nat} {j : Nat} {ok : Bool} (h : Acs s i L j ok) : ok = true → L ≠ [] ∧ j = acsEnd s L + 1 ∧ bt s (acsEnd s L) = 59 ∧ No s 59 i (acsEnd s L) ∧ i ≤ acsEnd s L ∧ acsEnd s L < s.size := by
  refine Acs.ind (M := fun i L j ok => ok = true → L ≠ [] ∧ j = acsEnd s L + 1 ∧ bt s (acsEnd s L) = 59 ∧ No s 59 i (acsEnd s L) ∧ i ≤ acsEnd s L ∧ acsEnd s L < s.size) ?_ ?_ ?_ ?_ ?_ h
  · intro _ _
    intro h; cases h
  · intro _ _ _
    intro h; cases h
  · intro i' _ h he
    intro _; exact ⟨by simp, rfl, he, .bare (by decide) (ac_bare h), by simp [acsEnd], lt_of_bt (by show bt s (i' + acLen s i') ≠ 0; omega)⟩
  · intro _ _ _ _ _
    intro h; cases h
  · intro i' L' j' _ _ h he hn ih
    intro e
    obtain ⟨h1, h2, h3, h4, h5, h6⟩ := ih e
    have hd : acsEnd s (i' :: L') = acsEnd s L' := by unfold acsEnd; rw [lastD_cons i' h1]
    rw [hd]
    exact ⟨by simp, h2, h3, ((No.bare (by decide) (ac_bare h)).trans (.one (by rw [he]; decide))).trans h4, by omega, h6⟩

/-- What is known of a rule that was read. -/
structure RuleOk (s : ByteArray) (r : RuleP) : Prop where
  dig : digB (bt s r.1) = true
  colon : bt s (r.1 + 1) = 58
  conds : Cds s (r.1 + 2) r.2.1 (cdsEnd s r.2.1 + 1) true
  acts : Acs s (cdsEnd s r.2.1 + 1) r.2.2 (acsEnd s r.2.2 + 1) true
theorem RuleOk.of {s : ByteArray} {i : Nat} {L K : List Nat} {j : Nat} (h : Rul s i L K j true) : RuleOk s (i, L, K) ∧ j = acsEnd s K + 1 := by
  obtain ⟨j1, hd, h1, hc, ha⟩ := h.yes
  have e1 := (cds_end hc rfl).2.1
  have e2 := (acs_end ha rfl).2.1
  subst e1 e2
  exact ⟨⟨hd, h1, hc, ha⟩, rfl⟩
theorem dig_ne {c : Int} (h : digB c = true) : c ≠ 59 ∧ c ≠ 62 := by
  simp only [digB, decide_eq_true_eq] at h; omega
theorem RuleOk.no59 {s : ByteArray} {r : RuleP} (h : RuleOk s r) : No s 59 r.1 (acsEnd s r.2.2) := by
  have hc := cds_end h.conds rfl
  have ha := acs_end h.acts rfl
  exact ((((No.one (dig_ne h.dig).1).trans (.one (by rw [h.colon]; decide))).trans hc.2.2.2.2.1).trans (.one (by rw [hc.2.2.1]; decide))).trans ha.2.2.2.1
theorem RuleOk.no62 {s : ByteArray} {r : RuleP} (h : RuleOk s r) : No s 62 r.1 (cdsEnd s r.2.1) := by
  have hc := cds_end h.conds rfl
  exact ((No.one (dig_ne h.dig).2).trans (.one (by rw [h.colon]; decide))).trans hc.2.2.2.1

end Go.Proofs.Ythlhbjnkohinmaa
