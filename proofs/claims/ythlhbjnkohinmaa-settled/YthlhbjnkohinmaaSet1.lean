/- What a run does, and how what is open is told: plain. -/
import Derived.Test.YthlhbjnkohinmaaPart20
import Derived.Test.YthlhbjnkohinmaaPart21
namespace Go.Proofs.Ythlhbjnkohinmaa
open Go.RowKit

/-! The rules' places, by the signs that end rules. -/
def cnt59 (s : ByteArray) : Nat → Nat
  | 0 => 0
  | i + 1 => cnt59 s i + (if bt s i = 59 then 1 else 0)
theorem cnt59_mono (s : ByteArray) : ∀ {a b : Nat}, a ≤ b → cnt59 s a ≤ cnt59 s b
  | a, 0, h => by
    have : a = 0 := by omega
    subst this
    exact Nat.le_refl _
  | a, b + 1, h => by
    by_cases e : a = b + 1
    · subst e; exact Nat.le_refl _
    · have := cnt59_mono s (a := a) (b := b) (by omega)
      show cnt59 s a ≤ cnt59 s b + _
      omega
theorem cnt59_no {s : ByteArray} {i : Nat} : ∀ {e : Nat}, i ≤ e → No s 59 i e → cnt59 s e = cnt59 s i
  | 0, h, _ => by
    have : i = 0 := by omega
    subst this
    rfl
  | e + 1, h, hn => by
    by_cases q : i = e + 1
    · subst q; rfl
    · have ih := cnt59_no (e := e) (by omega) (fun q h1 h2 => hn q h1 (by omega))
      show cnt59 s e + (if bt s e = 59 then 1 else 0) = _
      rw [if_neg (hn e (by omega) (by omega))]
      exact ih
/-- Where the rule of a number begins. -/
def BegAt (s : ByteArray) (k p : Nat) : Prop := p < s.size ∧ cnt59 s p = k ∧ ∀ q, q < p → cnt59 s q ≠ k
theorem rls_beg {s : ByteArray} {i : Nat} {R : List RuleP} {j : Nat} {ok : Bool} (h : Rls s i R j ok) : ok = true → ∀ c, cnt59 s i = c → (∀ q, q < i → cnt59 s q ≠ c) → ∀ k (hk : k < R.length), BegAt s (c + k) R[k].1 := by
  refine Rls.ind (M := fun i R j ok => ok = true → ∀ c, cnt59 s i = c → (∀ q, q < i → cnt59 s q ≠ c) → ∀ k (hk : k < R.length), BegAt s (c + k) R[k].1) ?_ ?_ ?_ h
  · intro i _ _ c _ _ k hk
    simp at hk
  · intro i L K j _ _ e
    cases e
  · intro i L K j R j' ok hi hr _ ih e c hc hq k hk
    cases k with
    | zero => exact ⟨hi, hc, hq⟩
    | succ k =>
      obtain ⟨hok, hj⟩ := RuleOk.of hr
      have hno := hok.no59
      have hae := acs_end hok.acts rfl
      have hce := cds_end hok.conds rfl
      have h59 : bt s (acsEnd s K) = 59 := hae.2.2.1
      have hle : i ≤ acsEnd s K := by
        have a1 : cdsEnd s L + 1 ≤ acsEnd s K := hae.2.2.2.2.1
        have a2 : i + 2 ≤ cdsEnd s L := hce.2.2.2.2.2
        omega
      have hE : cnt59 s (acsEnd s K) = c := (cnt59_no hle hno).trans hc
      have hJ : cnt59 s j = c + 1 := by
        rw [hj]
        show cnt59 s (acsEnd s K) + (if bt s (acsEnd s K) = 59 then 1 else 0) = _
        rw [if_pos h59, hE]
      have := ih e (c + 1) hJ (fun q hq2 => by
        have := cnt59_mono s (a := q) (b := acsEnd s K) (by omega)
        omega) k (by simpa using hk)
      rw [show c + (k + 1) = c + 1 + k by omega]
      simpa using this
theorem read_beg {s : ByteArray} {R : List RuleP} (h : ReadAns s 0 0 (some R)) : ∀ k (hk : k < R.length), BegAt s k R[k].1 := by
  rcases h with ⟨_, h, _, _⟩ | ⟨_, _, _, _, h, _⟩ | ⟨_, _, _, _, _, _, h, _⟩ | ⟨_, _, _, _, _, _, _, h, _⟩ | ⟨R', j, _, h2, _, _, _, _, h5⟩
  · cases h
  · cases h
  · cases h
  · cases h
  · cases h5
    intro k hk
    have := rls_beg h2 rfl 0 rfl (fun q hq => by omega) k hk
    rw [Nat.zero_add] at this
    exact this

/-! Bytes of texts one behind the other. -/
theorem bt_app (a b : ByteArray) (q : Nat) : bt (a ++ b) q = if q < a.size then bt a q else bt b (q - a.size) := by
  by_cases h : q < a.size
  · rw [if_pos h, bt_in h, bt_in (by rw [ByteArray.size_append]; omega), ByteArray.getElem_append_left h]
  · rw [if_neg h]
    by_cases h2 : q < (a ++ b).size
    · rw [bt_in h2, bt_in (by rw [ByteArray.size_append] at h2; omega), ByteArray.getElem_append_right (by omega)]
    · rw [bt_out h2, bt_out (by rw [ByteArray.size_append] at h2; omega)]
theorem bt_nums {l : List Int} {q : Nat} (hq : q < l.length) (h : 0 ≤ l[q] ∧ l[q] ≤ 255) : bt (strOfNums l) q = l[q] := by
  have hs : q < (strOfNums l).size := by rw [strOfNums_size]; exact hq
  rw [bt_in hs]
  have e : (strOfNums l)[q] = UInt8.ofNat l[q].toNat := by
    have e1 : (strOfNums l)[q] = (strOfNums l).data[q]'hs := rfl
    rw [e1]
    simp [strOfNums]
  rw [e]
  simp only [UInt8.toNat_ofNat']
  omega
/-- A fact's text has no sign that ends. -/
theorem fact_no {q : PFact} (h : q.1 < 60 ∧ 0 ≤ q.2.1 ∧ q.2.1 ≤ 9) (i : Nat) (hi : i < 3) : bt (factP q.1 q.2.1) i ≠ 59 := by
  unfold factP
  match i, hi with
  | 0, _ => rw [bt_nums (by simp) (by simp; omega)]; simp; omega
  | 1, _ => rw [bt_nums (by simp) (by simp; omega)]; simp; omega
  | 2, _ => rw [bt_nums (by simp) (by simp; omega)]; simp; omega
theorem facts_no : ∀ {l : List PFact}, (∀ q ∈ l, q.1 < 60 ∧ 0 ≤ q.2.1 ∧ q.2.1 ≤ 9) → ∀ i, i < (factsT l).size → bt (factsT l) i ≠ 59 := by
  intro l
  have key : ∀ (l : List PFact) (z : ByteArray), (∀ q ∈ l, q.1 < 60 ∧ 0 ≤ q.2.1 ∧ q.2.1 ≤ 9) → (∀ i, i < z.size → bt z i ≠ 59) → ∀ i, i < ((l.map fun q => factP q.1 q.2.1).foldl (· ++ ·) z).size → bt ((l.map fun q => factP q.1 q.2.1).foldl (· ++ ·) z) i ≠ 59 := by
    intro l
    induction l with
    | nil => intro z _ hz i hi; exact hz i hi
    | cons q l ih =>
      intro z h hz
      refine ih (z ++ factP q.1 q.2.1) (fun p hp => h p (by simp [hp])) (fun i hi => ?_)
      rw [ByteArray.size_append, size_factP] at hi
      rw [bt_app]
      split
      · rename_i h1; exact hz i h1
      · exact fact_no (h q (by simp)) _ (by omega)
  intro h i hi
  exact key l ByteArray.empty h (fun i hi => by simp at hi) i hi
/-- An instantiation's text: its rule, its facts, the sign that ends. -/
structure InTx (i : In) : Prop where
  rule : i.rule ≤ 9
  facts : ∀ q ∈ i.facts, q.1 < 60 ∧ 0 ≤ q.2.1 ∧ q.2.1 ≤ 9
theorem tell_size (i : In) : (tellT i).size = 2 + 3 * i.facts.length := by
  have h59 : (⟨#[59]⟩ : ByteArray).size = 1 := rfl
  unfold tellT writT
  rw [ByteArray.size_append, ByteArray.size_append, factsT_size, strOfNums_size, h59]
  simp
  omega
theorem tell_first {i : In} (h : InTx i) : bt (tellT i) 0 = 48 + (i.rule : Int) := by
  have hr := h.rule
  unfold tellT writT
  rw [bt_app, if_pos (by rw [ByteArray.size_append, strOfNums_size]; simp; omega), bt_app, if_pos (by rw [strOfNums_size]; simp), bt_nums (by simp) (by simp; omega)]
  simp
theorem tell_mid {i : In} (h : InTx i) {q : Nat} (h0 : 0 < q) (hq : q + 1 < (tellT i).size) : bt (tellT i) q ≠ 59 := by
  have hs := tell_size i
  unfold tellT
  rw [bt_app, if_pos (by unfold writT; rw [ByteArray.size_append, factsT_size, strOfNums_size]; simp; omega)]
  unfold writT
  rw [bt_app, if_neg (by rw [strOfNums_size]; simp; omega)]
  refine facts_no h.facts _ ?_
  rw [factsT_size, strOfNums_size]
  simp
  omega
theorem tell_last (i : In) : bt (tellT i) ((tellT i).size - 1) = 59 := by
  have hs := tell_size i
  have hw : (writT i).size = 1 + 3 * i.facts.length := by
    unfold writT
    rw [ByteArray.size_append, factsT_size, strOfNums_size]
    simp
  unfold tellT at hs ⊢
  rw [bt_app, if_neg (by omega), hs, hw, show 2 + 3 * i.facts.length - 1 - (1 + 3 * i.facts.length) = 0 by omega]
  rfl
theorem fold_app : ∀ (l : List ByteArray) (z : ByteArray), l.foldl (· ++ ·) z = z ++ l.foldl (· ++ ·) ByteArray.empty
  | [], z => by simp
  | x :: l, z => by
    rw [List.foldl_cons, List.foldl_cons, fold_app l (z ++ x), fold_app l (ByteArray.empty ++ x), ByteArray.empty_append, ByteArray.append_assoc]
theorem told_app (a b : List In) : toldT (a ++ b) = toldT a ++ toldT b := by
  unfold toldT joined
  rw [List.map_append, List.foldl_append, fold_app]
theorem told_at {l : List In} {p q : Nat} (hp : p < l.length) (hq : q < (tellT l[p]).size) : (toldT (l.take p)).size + q < (toldT l).size ∧ bt (toldT l) ((toldT (l.take p)).size + q) = bt (tellT l[p]) q := by
  have e1 : l = l.take p ++ ([l[p]] ++ l.drop (p + 1)) := by
    rw [← List.append_assoc, List.take_append_getElem, List.take_append_drop]
  have e2 : toldT [l[p]] = tellT l[p] := by
    have := joined_snoc [] (tellT l[p])
    show joined ([] ++ [tellT l[p]]) = _
    rw [this]
    exact ByteArray.empty_append
  have e3 : toldT l = toldT (l.take p) ++ (tellT l[p] ++ toldT (l.drop (p + 1))) := by
    conv => lhs; rw [e1]
    rw [told_app, told_app, e2]
  rw [e3]
  refine ⟨by rw [ByteArray.size_append, ByteArray.size_append]; omega, ?_⟩
  rw [bt_app, if_neg (by omega), show (toldT (l.take p)).size + q - (toldT (l.take p)).size = q by omega, bt_app, if_pos hq]
theorem told_succ {l : List In} {p : Nat} (hp : p < l.length) : (toldT (l.take (p + 1))).size = (toldT (l.take p)).size + (tellT l[p]).size := by
  rw [List.take_succ_eq_append_getElem hp, told_app, ByteArray.size_append]
  congr 2
theorem told_empty {l : List In} : toldT l = ByteArray.empty ↔ l = [] := by
  constructor
  · intro h
    cases l with
    | nil => rfl
    | cons i l =>
      have := told_at (l := i :: l) (p := 0) (q := 0) (by simp) (by rw [tell_size]; omega)
      rw [h] at this
      simp at this
  · rintro rfl
    rfl

/-! Why a run ends. -/
theorem runS_why (s : ByteArray) (R : List RuleP) (f : Nat → Int × Option Int) : ∀ (n : Nat) (S : PSes) (fm : Nat → Option Int),
    ((runS s R f n S fm).1.1 = 0 → (runS s R f n S fm).2 = (S, fm)) ∧
    (((runS s R f n S fm).1.2 = 1 ∧ fstS s R f (runS s R f n S fm).2.1 (runS s R f n S fm).2.2 = none) ∨
     ((runS s R f n S fm).1.2 = 2 ∧ (runS s R f n S fm).1.1 = n ∧ fstS s R f (runS s R f n S fm).2.1 (runS s R f n S fm).2.2 ≠ none) ∨
     ((runS s R f n S fm).1.2 = 3 ∧ 0 < (runS s R f n S fm).1.1 ∧ fstS s R f S fm ≠ none) ∨
     ((runS s R f n S fm).1.2 = 4 ∧ (runS s R f n S fm).1.1 < n ∧ fstS s R f (runS s R f n S fm).2.1 (runS s R f n S fm).2.2 ≠ none))
  | 0, S, fm => by
    have e : runS s R f 0 S fm = ((0, if (fstS s R f S fm).isSome then 2 else 1), S, fm) := rfl
    rw [e]
    refine ⟨fun _ => rfl, ?_⟩
    cases hf : fstS s R f S fm with
    | none => exact .inl ⟨rfl, rfl⟩
    | some i => exact .inr (.inl ⟨rfl, rfl, by simp⟩)
  | n + 1, S, fm => by
    cases hf : fstS s R f S fm with
    | none =>
      rw [runS_none hf]
      exact ⟨fun _ => rfl, .inl ⟨rfl, hf⟩⟩
    | some i =>
      cases ho : outA s i.env (R.getD i.rule (0, [], [])).2.2 with
      | none =>
        have e : runS s R f (n + 1) S fm = ((0, 4), S, fm) := by
          show (match fstS s R f S fm with | none => _ | some i => _) = _
          rw [hf]
          simp only []
          rw [ho]
        rw [e]
        exact ⟨fun _ => rfl, .inr (.inr (.inr ⟨rfl, by simp, by simp only; rw [hf]; simp⟩))⟩
      | some q =>
        cases hq : q.2 with
        | true =>
          have e : runS s R f (n + 1) S fm = ((1, 3), puts S q.1, upd fm (plcN i) (some (latF i.facts))) := by
            show (match fstS s R f S fm with | none => _ | some i => _) = _
            rw [hf]
            simp only []
            rw [ho]
            simp only []
            rw [hq]
            rfl
          rw [e]
          exact ⟨fun h => by simp at h, .inr (.inr (.inl ⟨rfl, by simp, by simp⟩))⟩
        | false =>
          have e : runS s R f (n + 1) S fm = (((runS s R f n (puts S q.1) (upd fm (plcN i) (some (latF i.facts)))).1.1 + 1, (runS s R f n (puts S q.1) (upd fm (plcN i) (some (latF i.facts)))).1.2), (runS s R f n (puts S q.1) (upd fm (plcN i) (some (latF i.facts)))).2) := by
            show (match fstS s R f S fm with | none => _ | some i => _) = _
            rw [hf]
            simp only []
            rw [ho]
            simp only []
            rw [hq]
            rfl
          obtain ⟨_, ih⟩ := runS_why s R f n (puts S q.1) (upd fm (plcN i) (some (latF i.facts)))
          rw [e]
          refine ⟨fun h => by simp at h, ?_⟩
          rcases ih with ⟨a, b⟩ | ⟨a, b, c⟩ | ⟨a, b, c⟩ | ⟨a, b, c⟩
          · exact .inl ⟨a, b⟩
          · exact .inr (.inl ⟨a, by simp only; omega, c⟩)
          · exact .inr (.inr (.inl ⟨a, by simp only; omega, by simp⟩))
          · exact .inr (.inr (.inr ⟨a, by simp only; omega, c⟩))

end Go.Proofs.Ythlhbjnkohinmaa
