/- The program's reading of rules, whole. -/
import Derived.Test.YthlhbjnkohinmaaUb2
namespace Go.Proofs.Ythlhbjnkohinmaa
open Go.RowKit

def ubBad (s : ByteArray) (R : List RuleP) (k : Nat) : Prop := ∃ h : k < R.length, unbB s R[k].2.1 R[k].2.2 = true

set_option maxHeartbeats 1000000 in
theorem firstUnbound_any (s : ByteArray) (R : List RuleP) (B : Nat) (v : Value) (w : World) (hR : R.length ≤ 400) (hlen : ∀ k (h : k < R.length), R[k].2.1.length ≤ 400 ∧ R[k].2.2.length ≤ 400) (h : RulesOwn w B s v R) :
    Calls Try.prog 67 #[v] w fun e w' => ∃ o, FirstBad (ubBad s R) R.length o ∧ e = .returned (found o) ∧ w.grownBy w' none := by
  obtain ⟨xs, hown, hpar⟩ := h
  obtain ⟨a, m, c, rfl⟩ := own_slice hown
  have e1 := own_len hown
  subst e1
  have HLEN := hid hlen
  clear hlen
  go_enter Try.func67, Try.ntmps67
  go_wp2_with fail
  go_loopw [8] (fun t wr => ∃ k : Nat, k ≤ R.length ∧ t = .int .i64 k ∧ w.grownBy wr none ∧ ∀ j, j < k → ¬ ubBad s R j) (fun t _ => R.length - (intOf t).toNat)
  case atStart => exact ⟨0, Nat.zero_le _, rfl, grown_refl _ _, fun j hj => by omega⟩
  case round =>
    obtain ⟨k, hk, rfl, hg, hno⟩ := hrel
    have HN := hid hno
    clear hno
    by_cases hlt : k < R.length
    · obtain ⟨a1, m1, c1, a2, m2, c2, x0, x1, x2, o1, o2⟩ := Parts_at R xs hpar k hlt
      obtain ⟨g, rfl, _, hgb, hgl, hcell⟩ := own_cell hown (by omega)
      have d0 := hg.cell (hcell _ _ x0) (by simp)
      have d1 := hg.cell (hcell _ _ x1) (by simp)
      have d2 := hg.cell (hcell _ _ x2) (by simp)
      have o1' := own_kept o1 hg (fun g hg => by cases hg)
      have o2' := own_kept o2 hg (fun g hg => by cases hg)
      clear hcell x0 x1 x2 o1 o2
      have HOV := hid (unbound_any s R[k].2.1 R[k].2.2 (bt s R[k].1 - 48) a1 a2 m1 c1 m2 c2 B _ (HLEN.out k hlt).1 (HLEN.out k hlt).2 (o1'.alloc (.cells #[.int .i64 (bt s R[k].1 - 48), .slice a1 m1 c1, .slice a2 m2 c2] 130)) (o2'.alloc _))
      clear o1' o2'
      by_cases hb : unbB s R[k].2.1 R[k].2.2 = true
      · rw [hb] at HOV
        have HB := hid hb
        clear hb
        go_wp2_with (go_at_call 83; refine HOV.out.mono ?_; rintro e w2 ⟨rfl, hg2⟩)
        go_ret2
        exact ⟨some k, ⟨hlt, ⟨hlt, HB.out⟩, HN.out⟩, rfl, grown_trans (grown_alloc hg _) hg2⟩
      · have hb' : unbB s R[k].2.1 R[k].2.2 = false := by simpa using hb
        rw [hb'] at HOV
        have HB := hid hb
        clear hb hb'
        go_wp2_with (go_at_call 83; refine HOV.out.mono ?_; rintro e w2 ⟨rfl, hg2⟩)
        go_roundw
        case rel =>
          refine ⟨k + 1, by omega, by go_num, grown_trans (grown_alloc hg _) hg2, ?_⟩
          intro j hj
          by_cases e : j = k
          · subst e; rintro ⟨_, h⟩; exact HB.out h
          · exact HN.out j (by omega)
        case measure => simp [intOf]; omega
    · go_wp2
      go_ret2
      refine ⟨none, ?_, rfl, hg⟩
      intro j hj
      exact HN.out j (by omega)

theorem Rul_le {s : ByteArray} {i : Nat} {L K : List Nat} {j : Nat} {ok : Bool} (h : Rul s i L K j ok) : i ≤ j := by
  rcases h with ⟨_, _, _, e, _⟩ | ⟨_, _, _, _, e, _⟩ | ⟨_, _, h1, _, _⟩ | ⟨_, _, _, h1, h2⟩
  · omega
  · omega
  · have := Cds_le h1; omega
  · have := Cds_le h1; have := Acs_le h2; omega
theorem Rls_len {s : ByteArray} {i : Nat} {R : List RuleP} {j : Nat} {ok : Bool} (h : Rls s i R j ok) : i + R.length ≤ j :=
  Rls.ind (M := fun i R j _ => i + R.length ≤ j) (fun _ _ => by simp) (fun _ _ _ _ _ h => by have := Rul_le h; simpa using this) (fun _ _ _ _ _ _ _ _ h _ ih => by have := Rul_lt h; simp; omega) h

theorem ov_len {s : ByteArray} {R : List RuleP} (h : FirstBad (ovBad s R) R.length none) (k : Nat) (hk : k < R.length) : R[k].2.1.length ≤ 5 ∧ R[k].2.2.length ≤ 4 ∧ k < 9 := by
  have h0 := h k hk
  have h1 : ¬ (9 ≤ k ∨ overB s R[k].2.1 R[k].2.2 = true) := fun hx => h0 ⟨hk, hx⟩
  simp only [overB, not_or, Bool.or_eq_true, decide_eq_true_eq] at h1
  omega

/-- What the outcome of the reading is, by the places that it read. -/
def ReadAns (s : ByteArray) (x p : Int) (o : Option (List RuleP)) : Prop :=
  (400 < s.size ∧ x = 1 ∧ p = 0 ∧ o = none) ∨
  (∃ (R : List RuleP) (j : Nat), s.size ≤ 400 ∧ Rls s 0 R j false ∧ x = 2 ∧ p = j ∧ o = none) ∨
  (∃ (R : List RuleP) (j m : Nat), s.size ≤ 400 ∧ Rls s 0 R j true ∧ FirstBad (ovBad s R) R.length (some m) ∧ x = 3 ∧ p = m ∧ o = none) ∨
  (∃ (R : List RuleP) (j m : Nat), s.size ≤ 400 ∧ Rls s 0 R j true ∧ FirstBad (ovBad s R) R.length none ∧ FirstBad (ubBad s R) R.length (some m) ∧ x = 4 ∧ p = m ∧ o = none) ∨
  (∃ (R : List RuleP) (j : Nat), s.size ≤ 400 ∧ Rls s 0 R j true ∧ FirstBad (ovBad s R) R.length none ∧ FirstBad (ubBad s R) R.length none ∧ x = 0 ∧ p = 0 ∧ o = some R)
theorem ReadAns.long {s : ByteArray} (h : 400 < s.size) : ReadAns s 1 0 none := .inl ⟨h, rfl, rfl, rfl⟩
theorem ReadAns.form {s : ByteArray} {R : List RuleP} {j : Nat} (h : s.size ≤ 400) (h1 : Rls s 0 R j false) : ReadAns s 2 j none := .inr (.inl ⟨R, j, h, h1, rfl, rfl, rfl⟩)
theorem ReadAns.many {s : ByteArray} {R : List RuleP} {j m : Nat} (h : s.size ≤ 400) (h1 : Rls s 0 R j true) (h2 : FirstBad (ovBad s R) R.length (some m)) : ReadAns s 3 m none := .inr (.inr (.inl ⟨R, j, m, h, h1, h2, rfl, rfl, rfl⟩))
theorem ReadAns.unbound {s : ByteArray} {R : List RuleP} {j m : Nat} (h : s.size ≤ 400) (h1 : Rls s 0 R j true) (h2 : FirstBad (ovBad s R) R.length none) (h3 : FirstBad (ubBad s R) R.length (some m)) : ReadAns s 4 m none := .inr (.inr (.inr (.inl ⟨R, j, m, h, h1, h2, h3, rfl, rfl, rfl⟩)))
theorem ReadAns.ok {s : ByteArray} {R : List RuleP} {j : Nat} (h : s.size ≤ 400) (h1 : Rls s 0 R j true) (h2 : FirstBad (ovBad s R) R.length none) (h3 : FirstBad (ubBad s R) R.length none) : ReadAns s 0 0 (some R) := .inr (.inr (.inr (.inr ⟨R, j, h, h1, h2, h3, rfl, rfl, rfl⟩)))

def ReadPost (w : World) (s : ByteArray) (e : Ending) (w' : World) : Prop :=
  ∃ v x p o, e = .returned (.tuple #[v, .int .i64 x, .int .i64 p]) ∧ ReadAns s x p o ∧ (∀ R, o = some R → RulesOwn w' w.heap.size s v R) ∧ (o = none → v = .slice none 0 0) ∧ w.grownBy w' none

theorem RulesOwn_kept {w w' : World} {B : Nat} {s : ByteArray} {v : Value} {R : List RuleP} (h : RulesOwn w B s v R) (hg : w.grownBy w' none) : RulesOwn w' B s v R := by
  obtain ⟨xs, h1, h2⟩ := h
  exact ⟨xs, own_kept h1 hg (fun g hg => by cases hg), Parts_kept hg (fun g hg => by cases hg) R xs h2⟩
theorem RulesOwn_mono {w : World} {B B' : Nat} {s : ByteArray} {v : Value} {R : List RuleP} (hb : B' ≤ B) (h : RulesOwn w B s v R) : RulesOwn w B' s v R := by
  obtain ⟨xs, h1, h2⟩ := h
  refine ⟨xs, own_mono h1 hb, ?_⟩
  clear h1
  induction R generalizing xs with
  | nil => exact h2
  | cons r R ih =>
    obtain ⟨b1, n1, d1, b2, n2, d2, ys, e, k1, k2, k3⟩ := h2
    exact ⟨b1, n1, d1, b2, n2, d2, ys, e, own_mono k1 hb, own_mono k2 hb, ih ys k3⟩

set_option maxHeartbeats 2000000 in
theorem read_any (s : ByteArray) (w : World) (hs : s.size ≤ maxLen) :
    Calls Try.prog 46 #[.string s] w (ReadPost w s) := by
  unfold maxLen at hs
  by_cases h400 : 400 < s.size
  · go_enter Try.func46, Try.ntmps46
    go_wp2
    go_ret3
    exact ⟨_, _, _, none, rfl, .long h400, (fun R h => by cases h), (fun _ => rfl), grown_refl _ _⟩
  · have h4 : s.size ≤ 400 := by omega
    have hr : Rd (w.alloc (.cells #[.string s, .int .i64 0] 152)) w.heap.size s 0 := heap_alloc_new w _
    go_enter Try.func46, Try.ntmps46
    go_wp2_with fail
    go_at_call 65
    refine (rules_any s w.heap.size 0 _ ⟨h4, by omega⟩ hr).mono ?_
    rintro e w1 ⟨R, j, ok, v, rfl, hrls, hown, hj, hr1, hg1⟩
    have hg1' : w.grownBy w1 none := grown_own2 (grown_alloc (grown_refl _ _) _) hg1 (fun g hg => by cases hg; exact Nat.le_refl _)
    have c1 := hr1.c1
    have HR := hid hrls
    have hlen := Rls_len hrls
    clear hrls hr hr1
    cases ok
    · go_wp2_with fail
      go_quiet ((fail))
      go_wp2
      go_ret3
      exact ⟨_, _, _, none, rfl, .form h4 HR.out, (fun R h => by cases h), (fun _ => rfl), grown_drewN hg1' _⟩
    · replace hown := hown rfl
      have hown' := RulesOwn_mono (B' := w.heap.size) (by simp) hown
      go_wp2_with fail
      go_at_call 66
      refine (firstOverfull_any s R w.heap.size v _ (by omega) hown').mono ?_
      rintro e w2 ⟨o, ho, rfl, hg2⟩
      have hown2 := RulesOwn_kept hown' hg2
      have HO := hid ho
      cases o with
      | some m =>
        unfold found
        go_wp2
        go_ret3
        exact ⟨_, _, _, none, rfl, .many h4 HR.out HO.out, (fun R h => by cases h), (fun _ => rfl), grown_trans hg1' hg2⟩
      | none =>
        have HL := hid (ov_len ho)
        clear ho
        unfold found
        go_wp2_with fail
        go_at_call 67
        refine (firstUnbound_any s R w.heap.size v _ (by omega) (fun k hk => by have := HL.out k hk; omega) hown2).mono ?_
        rintro e w3 ⟨o, ho, rfl, hg3⟩
        have hown3 := RulesOwn_kept hown2 hg3
        have HO2 := hid ho
        clear ho
        cases o with
        | some m =>
          unfold found
          go_wp2
          go_ret3
          exact ⟨_, _, _, none, rfl, .unbound h4 HR.out HO.out HO2.out, (fun R h => by cases h), (fun _ => rfl), grown_trans (grown_trans hg1' hg2) hg3⟩
        | none =>
          unfold found
          go_wp2
          go_ret3
          exact ⟨_, _, _, some R, rfl, .ok h4 HR.out HO.out HO2.out, (fun R' h => by cases h; exact hown3), (fun h => by cases h), grown_trans (grown_trans hg1' hg2) hg3⟩

end Go.Proofs.Ythlhbjnkohinmaa
