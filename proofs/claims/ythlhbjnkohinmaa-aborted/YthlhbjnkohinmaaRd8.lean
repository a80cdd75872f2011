/- The reader's rules: the loop over the whole text. -/
import Derived.Test.YthlhbjnkohinmaaRd7
namespace Go.Proofs.Ythlhbjnkohinmaa
open Go.RowKit

/-- Where a rule begins, where its conditions, where its actions. -/
abbrev RuleP := Nat × List Nat × List Nat

/-- What holds of all readings of rules. -/
structure RlsAll (s : ByteArray) (M : Nat → List RuleP → Nat → Bool → Prop) : Prop where
  done : ∀ i, ¬ i < s.size → M i [] i true
  bad : ∀ i L K j, i < s.size → Rul s i L K j false → M i [] j false
  next : ∀ i L K j R j' ok, i < s.size → Rul s i L K j true → M j R j' ok → M i ((i, L, K) :: R) j' ok

/-- From the place i on rules are read to the text's end. -/
def Rls (s : ByteArray) (i : Nat) (R : List RuleP) (j : Nat) (ok : Bool) : Prop := ∀ M, RlsAll s M → M i R j ok
theorem Rls.done {s : ByteArray} {i : Nat} (h : ¬ i < s.size) : Rls s i [] i true := fun _ c => c.done i h
theorem Rls.bad {s : ByteArray} {i : Nat} {L K : List Nat} {j : Nat} (h : i < s.size) (h1 : Rul s i L K j false) : Rls s i [] j false := fun _ c => c.bad i L K j h h1
theorem Rls.next {s : ByteArray} {i : Nat} {L K : List Nat} {j : Nat} {R : List RuleP} {j' : Nat} {ok : Bool} (h : i < s.size) (h1 : Rul s i L K j true) (h2 : Rls s j R j' ok) : Rls s i ((i, L, K) :: R) j' ok := fun M c => c.next i L K j R j' ok h h1 (h2 M c)
theorem Rls.ind {s : ByteArray} {M : Nat → List RuleP → Nat → Bool → Prop} (done : ∀ i, ¬ i < s.size → M i [] i true) (bad : ∀ i L K j, i < s.size → Rul s i L K j false → M i [] j false)
    (next : ∀ i L K j R j' ok, i < s.size → Rul s i L K j true → Rls s j R j' ok → M j R j' ok → M i ((i, L, K) :: R) j' ok)
    {i : Nat} {R : List RuleP} {j : Nat} {ok : Bool} (h : Rls s i R j ok) : M i R j ok :=
  (h (fun i R j ok => Rls s i R j ok ∧ M i R j ok) ⟨fun i h => ⟨.done h, done i h⟩, fun i L K j h h1 => ⟨.bad h h1, bad i L K j h h1⟩, fun i L K j R j' ok h h1 h2 => ⟨.next h h1 h2.1, next i L K j R j' ok h h1 h2.1 h2.2⟩⟩).2

theorem Cds_le {s : ByteArray} {i : Nat} {L : List Nat} {j : Nat} {ok : Bool} (h : Cds s i L j ok) : i ≤ j :=
  Cds.ind (M := fun i _ j _ => i ≤ j) (fun _ _ => Nat.le_refl _) (fun _ _ _ => by omega) (fun _ _ _ _ => by omega) (fun _ _ _ _ _ => by omega) (fun _ _ _ _ _ _ _ _ h => by omega) h
theorem Acs_le {s : ByteArray} {i : Nat} {L : List Nat} {j : Nat} {ok : Bool} (h : Acs s i L j ok) : i ≤ j :=
  Acs.ind (M := fun i _ j _ => i ≤ j) (fun _ _ => Nat.le_refl _) (fun _ _ _ => by omega) (fun _ _ _ _ => by omega) (fun _ _ _ _ _ => by omega) (fun _ _ _ _ _ _ _ _ h => by omega) h
theorem Rul_lt {s : ByteArray} {i : Nat} {L K : List Nat} {j : Nat} (h : Rul s i L K j true) : i < j := by
  obtain ⟨_, _, _, h1, h2⟩ := h.yes
  have := Cds_le h1; have := Acs_le h2; omega

/-- The cells of the rules, and that each rule's two lists are owned. -/
def Parts (w : World) (B : Nat) (s : ByteArray) : List RuleP → List Value → Prop
  | [], xs => xs = []
  | r :: R, xs => ∃ a1 m1 c1 a2 m2 c2 ys, xs = .int .i64 (bt s r.1 - 48) :: .slice a1 m1 c1 :: .slice a2 m2 c2 :: ys ∧
      w.ownsRow B 163 7 (.slice a1 m1 c1) r.2.1.length (cdsCells s r.2.1) ∧ w.ownsRow B 175 8 (.slice a2 m2 c2) r.2.2.length (acsCells s r.2.2) ∧ Parts w B s R ys

theorem Parts_snoc {w : World} {B : Nat} {s : ByteArray} {i : Nat} {L K : List Nat} {a1 : Option Addr} {m1 c1 : Nat} {a2 : Option Addr} {m2 c2 : Nat}
    (h1 : w.ownsRow B 163 7 (.slice a1 m1 c1) L.length (cdsCells s L)) (h2 : w.ownsRow B 175 8 (.slice a2 m2 c2) K.length (acsCells s K)) :
    ∀ (R : List RuleP) (xs : List Value), Parts w B s R xs → Parts w B s (R ++ [(i, L, K)]) (xs ++ [.int .i64 (bt s i - 48), .slice a1 m1 c1, .slice a2 m2 c2])
  | [], xs, h => by
    have h : xs = [] := h
    subst h
    exact ⟨a1, m1, c1, a2, m2, c2, [], rfl, h1, h2, rfl⟩
  | r :: R, xs, h => by
    obtain ⟨b1, n1, d1, b2, n2, d2, ys, rfl, k1, k2, k3⟩ := h
    exact ⟨b1, n1, d1, b2, n2, d2, ys ++ _, rfl, k1, k2, Parts_snoc h1 h2 R ys k3⟩

theorem own_kept {w w' : World} {base : Nat} {e : TypeId} {size : Nat} {v : Value} {n : Nat} {xs : List Value} {row : Option Nat} (h : w.ownsRow base e size v n xs) (hg : w.grownBy w' row)
    (hrow : ∀ g, row = some g → ∃ cs t, w.heap[g]? = some (.cells cs t (0, 0)) ∧ e ≠ t) : w'.ownsRow base e size v n xs := by
  rcases h.2 with ⟨hv, _⟩ | ⟨g', cap, cur, hv, _, hh, _⟩
  · exact h.kept hg (.inl (by rw [hv]; rfl))
  · refine h.kept hg (.inr ?_)
    intro hx
    have hx' : some g' = row := by rw [← hx, hv]; rfl
    obtain ⟨cs, t, hk, ht⟩ := hrow g' hx'.symm
    rw [hh] at hk
    simp at hk
    exact ht hk.2

theorem Parts_kept {w w' : World} {B : Nat} {s : ByteArray} {row : Option Nat} (hg : w.grownBy w' row)
    (hrow : ∀ g, row = some g → ∃ cs t, w.heap[g]? = some (.cells cs t (0, 0)) ∧ 163 ≠ t ∧ 175 ≠ t) : ∀ (R : List RuleP) (xs : List Value), Parts w B s R xs → Parts w' B s R xs
  | [], _, h => h
  | r :: R, xs, h => by
    obtain ⟨b1, n1, d1, b2, n2, d2, ys, rfl, k1, k2, k3⟩ := h
    refine ⟨b1, n1, d1, b2, n2, d2, ys, rfl, own_kept k1 hg ?_, own_kept k2 hg ?_, Parts_kept hg hrow R ys k3⟩
    · intro g h; obtain ⟨cs, t, e1, e2, e3⟩ := hrow g h; exact ⟨cs, t, e1, e2⟩
    · intro g h; obtain ⟨cs, t, e1, e2, e3⟩ := hrow g h; exact ⟨cs, t, e1, e3⟩

theorem Parts_alloc {w : World} {B : Nat} {s : ByteArray} {R : List RuleP} {xs : List Value} (h : Parts w B s R xs) (o : Obj) : Parts (w.alloc o) B s R xs :=
  Parts_kept (World.grownBy_alloc w o none) (fun g hg => by cases hg) R xs h

/-- The rules lie in a slice's memory. -/
def RulesOwn (w : World) (B : Nat) (s : ByteArray) (v : Value) (R : List RuleP) : Prop := ∃ xs, w.ownsRow B 130 3 v R.length xs ∧ Parts w B s R xs

theorem Try.info130 : (Try.prog.info? 130).map (fun i => (i.zero, i.size, i.bytes)) = some (some (.agg #[.int .i64 0, .slice none 0 0, .slice none 0 0]), 3, 56) := by kernel_rfl

def RlsPost (w : World) (b : Nat) (s : ByteArray) (i : Nat) (e : Ending) (w' : World) : Prop :=
  ∃ R j ok v, e = .returned (.tuple #[v, .bool ok]) ∧ Rls s i R j ok ∧ (ok = true → RulesOwn w' w.heap.size s v R) ∧ j ≤ 400 ∧ Rd w' b s j ∧ w.grownBy w' (some b)

theorem own_row_ty {w : World} {base : Nat} {e : TypeId} {size : Nat} {v : Value} {n : Nat} {xs : List Value} (h : w.ownsRow base e size v n xs) : ∀ g, v.ownBlock = some g → ∃ cs, w.heap[g]? = some (.cells cs e (0, 0)) := by
  intro g hg
  rcases h.2 with ⟨hv, _⟩ | ⟨g', cap, cur, hv, _, hh, _⟩
  · rw [hv] at hg; cases hg
  · rw [hv] at hg
    simp [Value.ownBlock] at hg
    subst hg
    exact ⟨cur, hh⟩

set_option maxHeartbeats 2000000 in
theorem rules_any (s : ByteArray) (b i : Nat) (w : World) (hB : s.size ≤ 400 ∧ i ≤ 400) (hr : Rd w b s i) :
    Calls Try.prog 65 #[.pointer (some ⟨b, 0, none⟩)] w (RlsPost w b s i) := by
  have hs := hB.1
  have hl := hr.lt
  obtain ⟨i0, hi0, hz0, hz1, hz2⟩ := info_parts Try.info130
  go_enter Try.func65, Try.ntmps65
  go_wp2_with fail
  go_loopw [4] (fun v wr => ∃ (R0 : List RuleP) (i' : Nat) (xs : List Value), Rd wr b s i' ∧ i' ≤ 400 ∧ R0.length ≤ i' ∧ wr.ownsRow w.heap.size 130 3 v R0.length xs ∧ Parts wr w.heap.size s R0 xs ∧ w.grownBy wr (some b) ∧ (∀ R j ok, Rls s i' R j ok → Rls s i (R0 ++ R) j ok))
    (fun _ wr => 400 - posOf wr b)
  case atStart => exact ⟨[], i, [], hr, hB.2, Nat.zero_le _, World.ownsRow_nil _ _ _ _, rfl, grown_refl _ _, fun L j ok h => h⟩
  case round =>
    obtain ⟨R0, i', xs, hr0, hi4, hL0, hown, hpar, hg0, HC⟩ := hrel
    have c0 := hr0.c0
    have c1 := hr0.c1
    have hB' : s.size ≤ 400 ∧ i' ≤ 400 := ⟨hs, hi4⟩
    have HC' := hid HC
    have HP := hid hpar
    clear HC hpar
    by_cases hlt : i' < s.size
    · go_wp2_with fail
      go_quiet ((fail))
      go_wp2_with fail
      go_at_call 81
      refine (rule_any s b i' _ hB' (hr0.drewN _)).mono ?_
      rintro e w2 ⟨L, K, j, ok, x, a1, m1, k1, a2, m2, k2, rfl, hrul, hpo, hj4, hr2, hg2⟩
      replace hg2 := grown_undrew hg2
      have hbk : ∀ g, some b = some g → ∃ cs t, wr.heap[g]? = some (.cells cs t (0, 0)) ∧ 163 ≠ t ∧ 175 ≠ t := by
        intro g hg; cases hg; exact ⟨_, _, hr0, by decide, by decide⟩
      have HP2 := hid (Parts_kept hg2 hbk R0 xs HP.out)
      have hown2 := hown.kept hg2 (.inr (own_ne hown hl))
      have hsz := hg0.size
      have hsz2 := hg2.size
      have HR := hid hrul
      clear hbk hrul
      cases ok
      · clear hpo
        go_wp2
        go_ret2
        exact ⟨R0 ++ [], j, false, .slice none 0 0, rfl, HC'.out _ _ _ (.bad hlt HR.out), (fun h => by cases h), hj4, hr2.alloc _, grown_alloc (grown_trans hg0 hg2) _⟩
      · obtain ⟨rfl, ho1, ho2⟩ := hpo rfl
        have HO1 := hid ho1
        have HO2 := hid ho2
        clear ho1 ho2
        go_wp2_with (first | (at_builtin; refine wpList_append_own _ rfl (.tmp 24) (.tmp 26) 74 rfl (w.heap.size) 130 i0 (.agg #[.int .i64 0, .slice none 0 0, .slice none 0 0]) 3 56 Try.underlying74 hi0 hz0 hz1 hz2 rfl (by decide) _ _ _ rfl ((hown2.alloc _).alloc _) _ 1 1 [.int .i64 (bt s i' - 48), .slice a1 m1 k1, .slice a2 m2 k2] rfl rfl ?c1 ?c2 ?c3 ?c4 ?c5 ?_))
        case c1 =>
          intro j u hj
          exact news_at hj
        case c2 => intro u hu; simp at hu; rcases hu with h | h | h <;> subst h <;> rfl
        case c3 => unfold maxLen; omega
        case c4 => omega
        case c5 => simp; omega
        · intro v' w3 hown3 hg3 _
          have hlt2 := Rul_lt HR.out
          have hown3' : w3.ownsRow w.heap.size 130 3 v' (R0 ++ [(i', L, K)]).length (xs ++ [.int .i64 (bt s i' - 48), .slice a1 m1 k1, .slice a2 m2 k2]) := by simpa using hown3
          have hr3 : Rd w3 b s j := (hg3.block b (by have := hr2.lt; simp; omega) (fun e => own_ne hown hl e.symm)).trans ((hr2.alloc _).alloc _)
          have hg3' : w.grownBy w3 (some b) := grown_own (grown_alloc (grown_alloc (grown_trans hg0 hg2) _) _) hg3 (fun g hg => (hown.lt g hg).1)
          have HP3 : Hid (Parts w3 w.heap.size s (R0 ++ [(i', L, K)]) (xs ++ [.int .i64 (bt s i' - 48), .slice a1 m1 k1, .slice a2 m2 k2])) := by
            refine Parts_kept hg3 ?_ _ _ (Parts_alloc (Parts_alloc (Parts_snoc (own_mono HO1.out (by simpa using hsz)) (own_mono HO2.out (by simpa using hsz)) R0 xs HP2.out) _) _)
            intro g hg
            obtain ⟨cs, hcs⟩ := own_row_ty ((hown2.alloc _).alloc _) g hg
            exact ⟨cs, _, hcs, by decide, by decide⟩
          have HN : Hid (∀ R j' ok, Rls s j R j' ok → Rls s i ((R0 ++ [(i', L, K)]) ++ R) j' ok) := hid (by
            intro R j' ok hn
            have := HC'.out _ _ _ (.next hlt HR.out hn)
            simpa using this)
          have hlen : (R0 ++ [(i', L, K)]).length ≤ j := by simp; omega
          have hp0 := hid (posOf_rd hr0)
          have hp3 := hid (posOf_rd hr3)
          clear hown3 hg3 hown2 hown hg2 hr2 hg0 c0 c1 hr0
          go_wp2
          go_roundw
          case rel => exact ⟨R0 ++ [(i', L, K)], j, _, hr3, hj4, hlen, hown3', HP3.out, hg3', HN.out⟩
          case measure => rw [hp0.out, hp3.out]; omega
    · go_wp2_with fail
      go_quiet ((fail))
      go_wp2
      go_ret2
      have := HC'.out _ _ _ (.done hlt)
      rw [List.append_nil] at this
      exact ⟨R0, i', true, _, rfl, this, (fun _ => ⟨xs, hown, Parts_kept (grown_drewN (grown_refl _ none) _) (fun g hg => by cases hg) _ _ HP.out⟩), hi4, hr0.drewN _, grown_drewN hg0 _⟩

end Go.Proofs.Ythlhbjnkohinmaa
