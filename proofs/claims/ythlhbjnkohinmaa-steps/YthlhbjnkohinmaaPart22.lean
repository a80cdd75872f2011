import Derived.Test.YthlhbjnkohinmaaRead
import Derived.Test.YthlhbjnkohinmaaPart21
/- What a text is read as is one thing. -/
namespace Go.Proofs.Ythlhbjnkohinmaa
open Go.RowKit

theorem Cds.inv {s : ByteArray} {i : Nat} {L : List Nat} {j : Nat} {ok : Bool} (h : Cds s i L j ok) :
    (¬ i < s.size ∧ L = [] ∧ j = i ∧ ok = false) ∨ (i < s.size ∧ cdOk s i = false ∧ L = [] ∧ j = i + cdLen s i ∧ ok = false) ∨
    (i < s.size ∧ cdOk s i = true ∧ bt s (i + cdLen s i) = 62 ∧ L = [i] ∧ j = i + cdLen s i + 1 ∧ ok = true) ∨
    (i < s.size ∧ cdOk s i = true ∧ ¬ bt s (i + cdLen s i) = 62 ∧ ¬ bt s (i + cdLen s i) = 44 ∧ L = [i] ∧ j = i + cdLen s i ∧ ok = false) ∨
    (i < s.size ∧ cdOk s i = true ∧ bt s (i + cdLen s i) = 44 ∧ ∃ L1, L = i :: L1 ∧ Cds s (i + cdLen s i + 1) L1 j ok) := by
  refine Cds.ind (M := fun i L j ok => (¬ i < s.size ∧ L = [] ∧ j = i ∧ ok = false) ∨ (i < s.size ∧ cdOk s i = false ∧ L = [] ∧ j = i + cdLen s i ∧ ok = false) ∨
    (i < s.size ∧ cdOk s i = true ∧ bt s (i + cdLen s i) = 62 ∧ L = [i] ∧ j = i + cdLen s i + 1 ∧ ok = true) ∨
    (i < s.size ∧ cdOk s i = true ∧ ¬ bt s (i + cdLen s i) = 62 ∧ ¬ bt s (i + cdLen s i) = 44 ∧ L = [i] ∧ j = i + cdLen s i ∧ ok = false) ∨
    (i < s.size ∧ cdOk s i = true ∧ bt s (i + cdLen s i) = 44 ∧ ∃ L1, L = i :: L1 ∧ Cds s (i + cdLen s i + 1) L1 j ok)) ?_ ?_ ?_ ?_ ?_ h
  · intro i h1
    exact .inl ⟨h1, rfl, rfl, rfl⟩
  · intro i h1 h2
    exact .inr (.inl ⟨h1, h2, rfl, rfl, rfl⟩)
  · intro i h1 h2 h3
    exact .inr (.inr (.inl ⟨h1, h2, h3, rfl, rfl, rfl⟩))
  · intro i h1 h2 h3 h4
    exact .inr (.inr (.inr (.inl ⟨h1, h2, h3, h4, rfl, rfl, rfl⟩)))
  · intro i L j ok h1 h2 h3 h4 _
    exact .inr (.inr (.inr (.inr ⟨h1, h2, h3, L, rfl, h4⟩)))
theorem Cds.unique {s : ByteArray} {i : Nat} {L : List Nat} {j : Nat} {ok : Bool} (h : Cds s i L j ok) : ∀ {L' : List Nat} {j' : Nat} {ok' : Bool}, Cds s i L' j' ok' → L = L' ∧ j = j' ∧ ok = ok' := by
  refine Cds.ind (M := fun i L j ok => ∀ {L' : List Nat} {j' : Nat} {ok' : Bool}, Cds s i L' j' ok' → L = L' ∧ j = j' ∧ ok = ok') ?_ ?_ ?_ ?_ ?_ h
  · intro i h1 L' j' ok' h'
    rcases h'.inv with ⟨_, e1, e2, e3⟩ | ⟨k, _⟩ | ⟨k, _⟩ | ⟨k, _⟩ | ⟨k, _⟩
    · exact ⟨e1.symm, e2.symm, e3.symm⟩
    all_goals exact absurd k h1
  · intro i h1 h2 L' j' ok' h'
    rcases h'.inv with ⟨k, _⟩ | ⟨_, _, e1, e2, e3⟩ | ⟨_, k, _⟩ | ⟨_, k, _⟩ | ⟨_, k, _⟩
    · exact absurd h1 k
    · exact ⟨e1.symm, e2.symm, e3.symm⟩
    all_goals (rw [h2] at k; cases k)
  · intro i h1 h2 h3 L' j' ok' h'
    rcases h'.inv with ⟨k, _⟩ | ⟨_, k, _⟩ | ⟨_, _, _, e1, e2, e3⟩ | ⟨_, _, k, _⟩ | ⟨_, _, k, _⟩
    · exact absurd h1 k
    · rw [h2] at k; cases k
    · exact ⟨e1.symm, e2.symm, e3.symm⟩
    · exact absurd h3 k
    · rw [h3] at k; exact absurd k (by decide)
  · intro i h1 h2 h3 h4 L' j' ok' h'
    rcases h'.inv with ⟨k, _⟩ | ⟨_, k, _⟩ | ⟨_, _, k, _⟩ | ⟨_, _, _, _, e1, e2, e3⟩ | ⟨_, _, k, _⟩
    · exact absurd h1 k
    · rw [h2] at k; cases k
    · exact absurd k h3
    · exact ⟨e1.symm, e2.symm, e3.symm⟩
    · exact absurd k h4
  · intro i L j ok h1 h2 h3 _ ih L' j' ok' h'
    rcases h'.inv with ⟨k, _⟩ | ⟨_, k, _⟩ | ⟨_, _, k, _⟩ | ⟨_, _, _, k, _⟩ | ⟨_, _, _, L1, e1, hr⟩
    · exact absurd h1 k
    · rw [h2] at k; cases k
    · rw [h3] at k; exact absurd k (by decide)
    · exact absurd h3 k
    · obtain ⟨a1, a2, a3⟩ := ih hr
      exact ⟨by rw [a1, e1], a2, a3⟩
theorem Acs.inv {s : ByteArray} {i : Nat} {L : List Nat} {j : Nat} {ok : Bool} (h : Acs s i L j ok) :
    (¬ i < s.size ∧ L = [] ∧ j = i ∧ ok = false) ∨ (i < s.size ∧ acOk s i = false ∧ L = [] ∧ j = i + acLen s i ∧ ok = false) ∨
    (i < s.size ∧ acOk s i = true ∧ bt s (i + acLen s i) = 59 ∧ L = [i] ∧ j = i + acLen s i + 1 ∧ ok = true) ∨
    (i < s.size ∧ acOk s i = true ∧ ¬ bt s (i + acLen s i) = 59 ∧ ¬ bt s (i + acLen s i) = 44 ∧ L = [i] ∧ j = i + acLen s i ∧ ok = false) ∨
    (i < s.size ∧ acOk s i = true ∧ bt s (i + acLen s i) = 44 ∧ ∃ L1, L = i :: L1 ∧ Acs s (i + acLen s i + 1) L1 j ok) := by
  refine Acs.ind (M := fun i L j ok => (¬ i < s.size ∧ L = [] ∧ j = i ∧ ok = false) ∨ (i < s.size ∧ acOk s i = false ∧ L = [] ∧ j = i + acLen s i ∧ ok = false) ∨
    (i < s.size ∧ acOk s i = true ∧ bt s (i + acLen s i) = 59 ∧ L = [i] ∧ j = i + acLen s i + 1 ∧ ok = true) ∨
    (i < s.size ∧ acOk s i = true ∧ ¬ bt s (i + acLen s i) = 59 ∧ ¬ bt s (i + acLen s i) = 44 ∧ L = [i] ∧ j = i + acLen s i ∧ ok = false) ∨
    (i < s.size ∧ acOk s i = true ∧ bt s (i + acLen s i) = 44 ∧ ∃ L1, L = i :: L1 ∧ Acs s (i + acLen s i + 1) L1 j ok)) ?_ ?_ ?_ ?_ ?_ h
  · intro i h1
    exact .inl ⟨h1, rfl, rfl, rfl⟩
  · intro i h1 h2
    exact .inr (.inl ⟨h1, h2, rfl, rfl, rfl⟩)
  · intro i h1 h2 h3
    exact .inr (.inr (.inl ⟨h1, h2, h3, rfl, rfl, rfl⟩))
  · intro i h1 h2 h3 h4
    exact .inr (.inr (.inr (.inl ⟨h1, h2, h3, h4, rfl, rfl, rfl⟩)))
  · intro i L j ok h1 h2 h3 h4 _
    exact .inr (.inr (.inr (.inr ⟨h1, h2, h3, L, rfl, h4⟩)))
theorem Acs.unique {s : ByteArray} {i : Nat} {L : List Nat} {j : Nat} {ok : Bool} (h : Acs s i L j ok) : ∀ {L' : List Nat} {j' : Nat} {ok' : Bool}, Acs s i L' j' ok' → L = L' ∧ j = j' ∧ ok = ok' := by
  refine Acs.ind (M := fun i L j ok => ∀ {L' : List Nat} {j' : Nat} {ok' : Bool}, Acs s i L' j' ok' → L = L' ∧ j = j' ∧ ok = ok') ?_ ?_ ?_ ?_ ?_ h
  · intro i h1 L' j' ok' h'
    rcases h'.inv with ⟨_, e1, e2, e3⟩ | ⟨k, _⟩ | ⟨k, _⟩ | ⟨k, _⟩ | ⟨k, _⟩
    · exact ⟨e1.symm, e2.symm, e3.symm⟩
    all_goals exact absurd k h1
  · intro i h1 h2 L' j' ok' h'
    rcases h'.inv with ⟨k, _⟩ | ⟨_, _, e1, e2, e3⟩ | ⟨_, k, _⟩ | ⟨_, k, _⟩ | ⟨_, k, _⟩
    · exact absurd h1 k
    · exact ⟨e1.symm, e2.symm, e3.symm⟩
    all_goals (rw [h2] at k; cases k)
  · intro i h1 h2 h3 L' j' ok' h'
    rcases h'.inv with ⟨k, _⟩ | ⟨_, k, _⟩ | ⟨_, _, _, e1, e2, e3⟩ | ⟨_, _, k, _⟩ | ⟨_, _, k, _⟩
    · exact absurd h1 k
    · rw [h2] at k; cases k
    · exact ⟨e1.symm, e2.symm, e3.symm⟩
    · exact absurd h3 k
    · rw [h3] at k; exact absurd k (by decide)
  · intro i h1 h2 h3 h4 L' j' ok' h'
    rcases h'.inv with ⟨k, _⟩ | ⟨_, k, _⟩ | ⟨_, _, k, _⟩ | ⟨_, _, _, _, e1, e2, e3⟩ | ⟨_, _, k, _⟩
    · exact absurd h1 k
    · rw [h2] at k; cases k
    · exact absurd k h3
    · exact ⟨e1.symm, e2.symm, e3.symm⟩
    · exact absurd k h4
  · intro i L j ok h1 h2 h3 _ ih L' j' ok' h'
    rcases h'.inv with ⟨k, _⟩ | ⟨_, k, _⟩ | ⟨_, _, k, _⟩ | ⟨_, _, _, k, _⟩ | ⟨_, _, _, L1, e1, hr⟩
    · exact absurd h1 k
    · rw [h2] at k; cases k
    · rw [h3] at k; exact absurd k (by decide)
    · exact absurd h3 k
    · obtain ⟨a1, a2, a3⟩ := ih hr
      exact ⟨by rw [a1, e1], a2, a3⟩
theorem Rul.unique {s : ByteArray} {i : Nat} {L K L' K' : List Nat} {j j' : Nat} {ok ok' : Bool} (h : Rul s i L K j ok) (h' : Rul s i L' K' j' ok') : L = L' ∧ K = K' ∧ j = j' ∧ ok = ok' := by
  rcases h with ⟨a, rfl, rfl, rfl, rfl⟩ | ⟨a, b, rfl, rfl, rfl, rfl⟩ | ⟨a, b, c, rfl, rfl⟩ | ⟨j1, a, b, c, d⟩ <;>
    rcases h' with ⟨a', rfl, rfl, rfl, rfl⟩ | ⟨a', b', rfl, rfl, rfl, rfl⟩ | ⟨a', b', c', rfl, rfl⟩ | ⟨j1', a', b', c', d'⟩
  · exact ⟨rfl, rfl, rfl, rfl⟩
  · rw [a] at a'; cases a'
  · rw [a] at a'; cases a'
  · rw [a] at a'; cases a'
  · rw [a] at a'; cases a'
  · exact ⟨rfl, rfl, rfl, rfl⟩
  · exact absurd b' b
  · exact absurd b' b
  · rw [a] at a'; cases a'
  · exact absurd b b'
  · obtain ⟨e1, e2, _⟩ := c.unique c'
    exact ⟨e1, rfl, e2, rfl⟩
  · obtain ⟨_, _, e3⟩ := c.unique c'
    cases e3
  · rw [a] at a'; cases a'
  · exact absurd b b'
  · obtain ⟨_, _, e3⟩ := c.unique c'
    cases e3
  · obtain ⟨e1, e2, _⟩ := c.unique c'
    subst e2
    obtain ⟨f1, f2, f3⟩ := d.unique d'
    exact ⟨e1, f1, f2, f3⟩
theorem Rls.inv {s : ByteArray} {i : Nat} {R : List RuleP} {j : Nat} {ok : Bool} (h : Rls s i R j ok) :
    (¬ i < s.size ∧ R = [] ∧ j = i ∧ ok = true) ∨ (i < s.size ∧ ∃ L K, Rul s i L K j false ∧ R = [] ∧ ok = false) ∨ (i < s.size ∧ ∃ L K j1 R1, Rul s i L K j1 true ∧ Rls s j1 R1 j ok ∧ R = (i, L, K) :: R1) := by
  refine Rls.ind (M := fun i R j ok => (¬ i < s.size ∧ R = [] ∧ j = i ∧ ok = true) ∨ (i < s.size ∧ ∃ L K, Rul s i L K j false ∧ R = [] ∧ ok = false) ∨ (i < s.size ∧ ∃ L K j1 R1, Rul s i L K j1 true ∧ Rls s j1 R1 j ok ∧ R = (i, L, K) :: R1)) ?_ ?_ ?_ h
  · intro i h1
    exact .inl ⟨h1, rfl, rfl, rfl⟩
  · intro i L K j h1 h2
    exact .inr (.inl ⟨h1, L, K, h2, rfl, rfl⟩)
  · intro i L K j R j' ok h1 h2 h3 _
    exact .inr (.inr ⟨h1, L, K, j, R, h2, h3, rfl⟩)
theorem Rls.unique {s : ByteArray} {i : Nat} {R : List RuleP} {j : Nat} {ok : Bool} (h : Rls s i R j ok) : ∀ {R' : List RuleP} {j' : Nat} {ok' : Bool}, Rls s i R' j' ok' → R = R' ∧ j = j' ∧ ok = ok' := by
  refine Rls.ind (M := fun i R j ok => ∀ {R' : List RuleP} {j' : Nat} {ok' : Bool}, Rls s i R' j' ok' → R = R' ∧ j = j' ∧ ok = ok') ?_ ?_ ?_ h
  · intro i h1 R' j' ok' h'
    rcases h'.inv with ⟨_, e1, e2, e3⟩ | ⟨k, _⟩ | ⟨k, _⟩
    · exact ⟨e1.symm, e2.symm, e3.symm⟩
    · exact absurd k h1
    · exact absurd k h1
  · intro i L K j h1 h2 R' j' ok' h'
    rcases h'.inv with ⟨k, _⟩ | ⟨_, L', K', k2, e1, e3⟩ | ⟨_, L', K', j1, R1, k2, _⟩
    · exact absurd h1 k
    · obtain ⟨_, _, e2, _⟩ := h2.unique k2
      exact ⟨e1.symm, e2, e3.symm⟩
    · obtain ⟨_, _, _, e⟩ := h2.unique k2
      cases e
  · intro i L K j R j1 ok h1 h2 _ ih R' j' ok' h'
    rcases h'.inv with ⟨k, _⟩ | ⟨_, L', K', k2, _⟩ | ⟨_, L', K', j2, R1, k2, k3, e1⟩
    · exact absurd h1 k
    · obtain ⟨_, _, _, e⟩ := h2.unique k2
      cases e
    · obtain ⟨f1, f2, f3, _⟩ := h2.unique k2
      subst f3
      obtain ⟨g1, g2, g3⟩ := ih k3
      exact ⟨by rw [e1, f1, f2, g1], g2, g3⟩
theorem ReadAns.same {s : ByteArray} {R R' : List RuleP} (h : ReadAns s 0 0 (some R)) (h' : ReadAns s 0 0 (some R')) : R = R' := by
  rcases h with ⟨_, h, _⟩ | ⟨_, _, _, _, h, _⟩ | ⟨_, _, _, _, _, _, h, _⟩ | ⟨_, _, _, _, _, _, _, h, _⟩ | ⟨Q, j, _, h2, _, _, _, _, h5⟩
  · cases h
  · cases h
  · cases h
  · cases h
  · rcases h' with ⟨_, h, _⟩ | ⟨_, _, _, _, h, _⟩ | ⟨_, _, _, _, _, _, h, _⟩ | ⟨_, _, _, _, _, _, _, h, _⟩ | ⟨Q', j', _, k2, _, _, _, _, k5⟩
    · cases h
    · cases h
    · cases h
    · cases h
    · cases h5
      cases k5
      exact (h2.unique k2).1
theorem ReadAns.not_both {s : ByteArray} {R : List RuleP} {x p : Int} (h : ReadAns s 0 0 (some R)) (h' : ReadAns s x p none) : False := by
  rcases h with ⟨_, h, _⟩ | ⟨_, _, _, _, h, _⟩ | ⟨_, _, _, _, _, _, h, _⟩ | ⟨_, _, _, _, _, _, _, h, _⟩ | ⟨Q, j, h1, h2, h3, h4, _, _, h5⟩
  · cases h
  · cases h
  · cases h
  · cases h
  · rcases h' with ⟨k, _⟩ | ⟨_, _, _, k, _⟩ | ⟨Q', j', m, _, k2, k3, _⟩ | ⟨Q', j', m, _, k2, _, k3, _⟩ | ⟨Q', j', _, _, _, _, _, _, k5⟩
    · omega
    · have := (h2.unique k).2.2
      cases this
    · obtain ⟨e, _⟩ := h2.unique k2
      subst e
      have := FirstBad.unique h3 k3
      cases this
    · obtain ⟨e, _⟩ := h2.unique k2
      subst e
      have := FirstBad.unique h4 k3
      cases this
    · cases k5

end Go.Proofs.Ythlhbjnkohinmaa

/- Two engines in the statements' loops. -/
namespace Go.Proofs.Ythlhbjnkohinmaa
open Go.RowKit

abbrev Boxes := List (Nat × Array Value × TypeId)
/-- Two engines, side by side, and some boxes beside them: their blocks are new, all that is old is as it was. -/
structure E2 (base x y : Nat) (w wr : World) (X : PEng) (F : Mks) (Y : PEng) (G : Mks) (Bx : Boxes) (f g : List Nat) : Prop where
  one : PEngE x X F wr f
  two : PEngE y Y G wr g
  nd : (f ++ g).Nodup
  above : ∀ q ∈ f ++ g, base ≤ q
  below : Below base w wr
  room : base ≤ wr.heap.size
  box : ∀ b ∈ Bx, wr.heap[b.1]? = some (.cells b.2.1 b.2.2 (0, 0)) ∧ b.1 ∉ f ++ g
def EE (base x y : Nat) (w : World) (X : PEng) (F : Mks) (Y : PEng) (G : Mks) (Bx : Boxes) (wr : World) : Prop := ∃ f g, E2 base x y w wr X F Y G Bx f g
theorem E2.step1 {base x y : Nat} {Bx : Boxes} {w wr wr' : World} {X X' Y : PEng} {F F' G : Mks} {f g : List Nat} (h : E2 base x y w wr X F Y G Bx f g) (ht : ATo (PEngE x X' F') f wr wr') : EE base x y w X' F' Y G Bx wr' := by
  obtain ⟨f', a, n, s, r⟩ := ht
  have hnd := h.nd
  rw [List.nodup_append] at hnd
  obtain ⟨n1, n2, d⟩ := hnd
  have hg := PEngE.within _ _ _ h.two
  refine ⟨f', g, a, PEngE.framed _ _ _ h.two r (fun q hq hf => d q hf q hq rfl), ?_, fun q hq => ?_, h.below.trans (r.below h.room (fun q hq => h.above q (List.mem_append_left _ hq))), Nat.le_trans h.room r.size, fun b hb => ?_⟩
  · rw [List.nodup_append]
    refine ⟨n, n2, fun a ha b hb e => ?_⟩
    subst e
    rcases s a ha with k | k
    · exact d a k a hb rfl
    · have := hg a hb; omega
  · rcases List.mem_append.mp hq with hq | hq
    · rcases s q hq with k | k
      · exact h.above q (List.mem_append_left _ k)
      · exact Nat.le_trans h.room k
    · exact h.above q (List.mem_append_right _ hq)
  · obtain ⟨b1, b2⟩ := h.box b hb
    have hbl := lt_of_block b1
    refine ⟨(r.block _ hbl (fun e => b2 (List.mem_append_left _ e))).trans b1, fun e => ?_⟩
    rcases List.mem_append.mp e with e | e
    · rcases s _ e with k | k
      · exact b2 (List.mem_append_left _ k)
      · omega
    · exact b2 (List.mem_append_right _ e)
theorem E2.step2 {base x y : Nat} {Bx : Boxes} {w wr wr' : World} {X Y Y' : PEng} {F G G' : Mks} {f g : List Nat} (h : E2 base x y w wr X F Y G Bx f g) (ht : ATo (PEngE y Y' G') g wr wr') : EE base x y w X F Y' G' Bx wr' := by
  obtain ⟨g', a, n, s, r⟩ := ht
  have hnd := h.nd
  rw [List.nodup_append] at hnd
  obtain ⟨n1, n2, d⟩ := hnd
  have hf := PEngE.within _ _ _ h.one
  refine ⟨f, g', PEngE.framed _ _ _ h.one r (fun q hq hg => d q hq q hg rfl), a, ?_, fun q hq => ?_, h.below.trans (r.below h.room (fun q hq => h.above q (List.mem_append_right _ hq))), Nat.le_trans h.room r.size, fun b hb => ?_⟩
  · rw [List.nodup_append]
    refine ⟨n1, n, fun a ha b hb e => ?_⟩
    subst e
    rcases s a hb with k | k
    · exact d a ha a k rfl
    · have := hf a ha; omega
  · rcases List.mem_append.mp hq with hq | hq
    · exact h.above q (List.mem_append_left _ hq)
    · rcases s q hq with k | k
      · exact h.above q (List.mem_append_right _ k)
      · exact Nat.le_trans h.room k
  · obtain ⟨b1, b2⟩ := h.box b hb
    have hbl := lt_of_block b1
    refine ⟨(r.block _ hbl (fun e => b2 (List.mem_append_right _ e))).trans b1, fun e => ?_⟩
    rcases List.mem_append.mp e with e | e
    · exact b2 (List.mem_append_left _ e)
    · rcases s _ e with k | k
      · exact b2 (List.mem_append_right _ k)
      · omega
theorem EE.quiet {base x y : Nat} {Bx : Boxes} {w wr wr' : World} {X Y : PEng} {F G : Mks} (h : EE base x y w X F Y G Bx wr) (hf : Fr [] wr wr') : EE base x y w X F Y G Bx wr' := by
  obtain ⟨f, g, h⟩ := h
  exact ⟨f, g, PEngE.framed _ _ _ h.one hf (by simp), PEngE.framed _ _ _ h.two hf (by simp), h.nd, h.above, h.below.trans (hf.below h.room (by simp)), Nat.le_trans h.room hf.size, fun b hb => ⟨(hf.block _ (lt_of_block (h.box b hb).1) (by simp)).trans (h.box b hb).1, (h.box b hb).2⟩⟩
/-- A box more. -/
theorem EE.alloc {base x y : Nat} {Bx : Boxes} {w wr : World} {X Y : PEng} {F G : Mks} (h : EE base x y w X F Y G Bx wr) (cs : Array Value) (t : TypeId) : EE base x y w X F Y G ((wr.heap.size, cs, t) :: Bx) (wr.alloc (.cells cs t)) := by
  obtain ⟨f, g, k⟩ := h.quiet (fr_alloc wr (.cells cs t))
  obtain ⟨f0, g0, k0⟩ := h
  refine ⟨f0, g0, PEngE.framed _ _ _ k0.one (fr_alloc wr _) (by simp), PEngE.framed _ _ _ k0.two (fr_alloc wr _) (by simp), k0.nd, k0.above, k.below, k.room, fun b hb => ?_⟩
  rcases List.mem_cons.mp hb with e | hb
  · subst e
    refine ⟨heap_alloc_new wr _, fun e => ?_⟩
    rcases List.mem_append.mp e with e | e
    · have := PEngE.within _ _ _ k0.one _ e; simp at this
    · have := PEngE.within _ _ _ k0.two _ e; simp at this
  · exact ⟨((fr_alloc wr _).block _ (lt_of_block (k0.box b hb).1) (by simp)).trans (k0.box b hb).1, (k0.box b hb).2⟩
/-- Fewer boxes. -/
theorem EE.less {base x y : Nat} {Bx Bx' : Boxes} {w wr : World} {X Y : PEng} {F G : Mks} (h : EE base x y w X F Y G Bx wr) (hb : ∀ b ∈ Bx', b ∈ Bx) : EE base x y w X F Y G Bx' wr := by
  obtain ⟨f, g, h⟩ := h
  exact ⟨f, g, h.one, h.two, h.nd, h.above, h.below, h.room, fun b k => h.box b (hb b k)⟩
theorem EE.box {base x y : Nat} {Bx : Boxes} {w wr : World} {X Y : PEng} {F G : Mks} (h : EE base x y w X F Y G Bx wr) {b : Nat × Array Value × TypeId} (hb : b ∈ Bx) : wr.heap[b.1]? = some (.cells b.2.1 b.2.2 (0, 0)) := by
  obtain ⟨f, g, h⟩ := h
  exact (h.box b hb).1
theorem EE.start {x y : Nat} {r r' : Src} {w w1 w2 : World} (h : ENew x (X0 r) w w1) (k : ENew y (X0 r') w1 w2) : EE w.heap.size x y w (X0 r) (fun _ => noMk) (X0 r') (fun _ => noMk) [] w2 := by
  obtain ⟨f, a, n, s, r1⟩ := h
  obtain ⟨g, b, m, t, r2⟩ := k
  have hf := PEngE.within _ _ _ a
  refine ⟨f, g, PEngE.framed _ _ _ a r2 (by simp), b, ?_, fun q hq => ?_, (r1.trans r2).below (Nat.le_refl _) (by simp), (r1.trans r2).size, fun b hb => by cases hb⟩
  · rw [List.nodup_append]
    refine ⟨n, m, fun a ha b hb e => ?_⟩
    subst e
    have h1 := hf a ha
    have h2 := t a hb
    omega
  · rcases List.mem_append.mp hq with hq | hq
    · exact s q hq
    · exact Nat.le_trans r1.size (t q hq)
theorem EE.below {base x y : Nat} {Bx : Boxes} {w wr : World} {X Y : PEng} {F G : Mks} (h : EE base x y w X F Y G Bx wr) : Below base w wr := by
  obtain ⟨_, _, h⟩ := h
  exact h.below
theorem EE.room {base x y : Nat} {Bx : Boxes} {w wr : World} {X Y : PEng} {F G : Mks} (h : EE base x y w X F Y G Bx wr) : base ≤ wr.heap.size := by
  obtain ⟨_, _, h⟩ := h
  exact h.room
theorem EE.nds {base x y : Nat} {Bx : Boxes} {w wr : World} {X Y : PEng} {F G : Mks} {f g : List Nat} (h : E2 base x y w wr X F Y G Bx f g) : f.Nodup ∧ g.Nodup := by
  have := h.nd
  rw [List.nodup_append] at this
  exact ⟨this.1, this.2.1⟩
theorem EE.act1 {base x y : Nat} {Bx : Boxes} {w wr : World} {X Y : PEng} {F G : Mks} (h : EE base x y w X F Y G Bx wr) {i : Nat} (hg : Fit i X) (hi : i ≤ 100000000000000) (hR : RulesP X.src.2.1 X.src.2.2) (kd b c : Int) (s : ByteArray) (hs63 : s.size < 9223372036854775808) :
    Calls Try.prog 16 #[.pointer (some ⟨x, 0, none⟩), actV kd b c s] wr fun e w' => e = .returned (ansV (pact X F kd b c s).1.1 (pact X F kd b c s).1.2.1 (pact X F kd b c s).1.2.2.1 (pact X F kd b c s).1.2.2.2) ∧ EE base x y w (pact X F kd b c s).2.1 (pact X F kd b c s).2.2 Y G Bx w' := by
  obtain ⟨f, g, h⟩ := h
  refine (eact x X F f i kd b c s wr h.one (EE.nds h).1 hg hi hR hs63).mono ?_
  rintro e w' ⟨rfl, ht⟩
  exact ⟨rfl, h.step1 ht⟩
theorem EE.act2 {base x y : Nat} {Bx : Boxes} {w wr : World} {X Y : PEng} {F G : Mks} (h : EE base x y w X F Y G Bx wr) {i : Nat} (hg : Fit i Y) (hi : i ≤ 100000000000000) (hR : RulesP Y.src.2.1 Y.src.2.2) (kd b c : Int) (s : ByteArray) (hs63 : s.size < 9223372036854775808) :
    Calls Try.prog 16 #[.pointer (some ⟨y, 0, none⟩), actV kd b c s] wr fun e w' => e = .returned (ansV (pact Y G kd b c s).1.1 (pact Y G kd b c s).1.2.1 (pact Y G kd b c s).1.2.2.1 (pact Y G kd b c s).1.2.2.2) ∧ EE base x y w X F (pact Y G kd b c s).2.1 (pact Y G kd b c s).2.2 Bx w' := by
  obtain ⟨f, g, h⟩ := h
  refine (eact y Y G g i kd b c s wr h.two (EE.nds h).2 hg hi hR hs63).mono ?_
  rintro e w' ⟨rfl, ht⟩
  exact ⟨rfl, h.step2 ht⟩
theorem EE.run1 {base x y : Nat} {Bx : Boxes} {w wr : World} {X Y : PEng} {F G : Mks} (h : EE base x y w X F Y G Bx wr) {i : Nat} (hg : Fit i X) (hi : i ≤ 100000000000000) (hR : RulesP X.src.2.1 X.src.2.2) (n c : Int) :
    Calls Try.prog 19 #[.pointer (some ⟨x, 0, none⟩), .int .i64 n, .int .i64 c] wr fun e w' => e = .returned (.tuple #[.int .i64 (prunE X F n c).1.1, .int .i64 (prunE X F n c).1.2.1, .int .i64 (prunE X F n c).1.2.2]) ∧ EE base x y w (prunE X F n c).2.1 (prunE X F n c).2.2 Y G Bx w' := by
  obtain ⟨f, g, h⟩ := h
  refine (erun_to x X F f i n c wr h.one (EE.nds h).1 hg hi hR).mono ?_
  rintro e w' ⟨rfl, ht⟩
  exact ⟨rfl, h.step1 ht⟩
theorem EE.run2 {base x y : Nat} {Bx : Boxes} {w wr : World} {X Y : PEng} {F G : Mks} (h : EE base x y w X F Y G Bx wr) {i : Nat} (hg : Fit i Y) (hi : i ≤ 100000000000000) (hR : RulesP Y.src.2.1 Y.src.2.2) (n c : Int) :
    Calls Try.prog 19 #[.pointer (some ⟨y, 0, none⟩), .int .i64 n, .int .i64 c] wr fun e w' => e = .returned (.tuple #[.int .i64 (prunE Y G n c).1.1, .int .i64 (prunE Y G n c).1.2.1, .int .i64 (prunE Y G n c).1.2.2]) ∧ EE base x y w X F (prunE Y G n c).2.1 (prunE Y G n c).2.2 Bx w' := by
  obtain ⟨f, g, h⟩ := h
  refine (erun_to y Y G g i n c wr h.two (EE.nds h).2 hg hi hR).mono ?_
  rintro e w' ⟨rfl, ht⟩
  exact ⟨rfl, h.step2 ht⟩

/-- Two engines of one text: both are there, or none is. -/
theorem two_read {s : ByteArray} {room : Int} {r r' : Src} (h1 : r.1.2 = room) (h2 : r.2.1 = s) (h3 : ReadAns s 0 0 (some r.2.2)) (h4 : r.1.1 = .bool false) (k1 : r'.1.2 = room) (k2 : r'.2.1 = s) (k3 : ReadAns s 0 0 (some r'.2.2)) (k4 : r'.1.1 = .bool false) : r' = r := by
  obtain ⟨⟨a, b⟩, c, d⟩ := r
  obtain ⟨⟨a', b'⟩, c', d'⟩ := r'
  simp only at h1 h2 h3 h4 k1 k2 k3 k4
  have := h3.same k3
  rw [h1, h2, h4, k1, k2, k4, this]

end Go.Proofs.Ythlhbjnkohinmaa
