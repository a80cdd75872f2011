/- Two texts of rules whose reading is known. -/
import Derived.Test.YthlhbjnkohinmaaNewP
namespace Go.Proofs.Ythlhbjnkohinmaa
open Go.RowKit

/-- The text of one rule: if a has y at x, b gets y at x. -/
def s0 : ByteArray := ⟨#[53, 58, 97, 120, 121, 62, 43, 98, 120, 121, 59]⟩
theorem s0_size : s0.size = 11 := rfl

theorem cds0 {L : List Nat} {j : Nat} {ok : Bool} (h : Cds s0 2 L j ok) : L = [2] ∧ j = 6 ∧ ok = true := by
  have e1 : cdOk s0 2 = true := by decide +kernel
  have e2 : cdLen s0 2 = 3 := by decide +kernel
  have e3 : bt s0 (2 + 3) = 62 := by decide +kernel
  refine h (fun i L j ok => i = 2 → L = [2] ∧ j = 6 ∧ ok = true) ⟨?_, ?_, ?_, ?_, ?_⟩ rfl
  · rintro i hi rfl; exact absurd (by rw [s0_size]; omega) hi
  · rintro i _ hb rfl; rw [e1] at hb; cases hb
  · rintro i _ _ _ rfl; rw [e2]; exact ⟨rfl, rfl, rfl⟩
  · rintro i _ _ h1 _ rfl; rw [e2] at h1; exact absurd e3 h1
  · rintro i L j ok _ _ h1 _ rfl; rw [e2, e3] at h1; cases h1
theorem acs0 {L : List Nat} {j : Nat} {ok : Bool} (h : Acs s0 6 L j ok) : L = [6] ∧ j = 11 ∧ ok = true := by
  have e1 : acOk s0 6 = true := by decide +kernel
  have e2 : acLen s0 6 = 4 := by decide +kernel
  have e3 : bt s0 (6 + 4) = 59 := by decide +kernel
  refine h (fun i L j ok => i = 6 → L = [6] ∧ j = 11 ∧ ok = true) ⟨?_, ?_, ?_, ?_, ?_⟩ rfl
  · rintro i hi rfl; exact absurd (by rw [s0_size]; omega) hi
  · rintro i _ hb rfl; rw [e1] at hb; cases hb
  · rintro i _ _ _ rfl; rw [e2]; exact ⟨rfl, rfl, rfl⟩
  · rintro i _ _ h1 _ rfl; rw [e2] at h1; exact absurd e3 h1
  · rintro i L j ok _ _ h1 _ rfl; rw [e2, e3] at h1; cases h1
theorem rul0 {L K : List Nat} {j : Nat} {ok : Bool} (h : Rul s0 0 L K j ok) : L = [2] ∧ K = [6] ∧ j = 11 ∧ ok = true := by
  have e1 : digB (bt s0 0) = true := by decide +kernel
  have e2 : bt s0 (0 + 1) = 58 := by decide +kernel
  rcases h with ⟨h, _⟩ | ⟨_, h, _⟩ | ⟨_, _, h, _, _⟩ | ⟨j1, _, _, h1, h2⟩
  · rw [e1] at h; cases h
  · exact absurd e2 h
  · have := (cds0 h).2.2; cases this
  · obtain ⟨rfl, rfl, _⟩ := cds0 h1
    obtain ⟨rfl, rfl, rfl⟩ := acs0 h2
    exact ⟨rfl, rfl, rfl, rfl⟩
theorem rls0 {R : List RuleP} {j : Nat} {ok : Bool} (h : Rls s0 0 R j ok) : R = [(0, [2], [6])] ∧ ok = true := by
  have := h (fun i R j ok => (i = 0 → R = [(0, [2], [6])] ∧ ok = true) ∧ (i = 11 → R = [] ∧ ok = true)) ⟨?_, ?_, ?_⟩
  · exact this.1 rfl
  · intro i hi
    rw [s0_size] at hi
    exact ⟨fun e => by omega, fun _ => ⟨rfl, rfl⟩⟩
  · intro i L K j hi hr
    rw [s0_size] at hi
    refine ⟨fun e => ?_, fun e => by omega⟩
    subst e
    have := (rul0 hr).2.2.2
    cases this
  · intro i L K j R j' ok hi hr hm
    rw [s0_size] at hi
    refine ⟨fun e => ?_, fun e => by omega⟩
    subst e
    obtain ⟨rfl, rfl, rfl, _⟩ := rul0 hr
    obtain ⟨rfl, rfl⟩ := hm.2 rfl
    exact ⟨rfl, rfl⟩
theorem read0 {x p : Int} {o : Option (List RuleP)} (h : ReadAns s0 x p o) : x = 0 := by
  have e1 : overB s0 [2] [6] = false := by decide +kernel
  have e2 : unbB s0 [2] [6] = false := by decide +kernel
  rcases h with ⟨h, _⟩ | ⟨R, j, _, h, _⟩ | ⟨R, j, m, _, h, h2, _⟩ | ⟨R, j, m, _, h, _, h2, _⟩ | ⟨R, j, _, _, _, _, h, _⟩
  · rw [s0_size] at h; omega
  · have := (rls0 h).2; cases this
  · obtain ⟨rfl, _⟩ := rls0 h
    obtain ⟨hm, ⟨hk, hb⟩, _⟩ := h2
    have : m = 0 := by simpa using hm
    subst this
    simp [e1] at hb
  · obtain ⟨rfl, _⟩ := rls0 h
    obtain ⟨hm, ⟨hk, hb⟩, _⟩ := h2
    have : m = 0 := by simpa using hm
    subst this
    simp [e2] at hb
  · exact h

/-- The empty text. -/
theorem rlsE {R : List RuleP} {j : Nat} {ok : Bool} (h : Rls ByteArray.empty 0 R j ok) : R = [] ∧ ok = true := by
  have hz : ByteArray.empty.size = 0 := rfl
  refine h (fun i R j ok => R = [] ∧ ok = true) ⟨?_, ?_, ?_⟩
  · intro i _; exact ⟨rfl, rfl⟩
  · intro i L K j hi _; rw [hz] at hi; omega
  · intro i L K j R j' ok hi _ _; rw [hz] at hi; omega
theorem readE {x p : Int} {o : Option (List RuleP)} (h : ReadAns ByteArray.empty x p o) : x = 0 := by
  rcases h with ⟨h, _⟩ | ⟨R, j, _, h, _⟩ | ⟨R, j, m, _, h, h2, _⟩ | ⟨R, j, m, _, h, _, h2, _⟩ | ⟨R, j, _, _, _, _, h, _⟩
  · have hz : ByteArray.empty.size = 0 := rfl
    omega
  · have := (rlsE h).2; cases this
  · obtain ⟨rfl, _⟩ := rlsE h
    exact absurd h2.1 (by simp)
  · obtain ⟨rfl, _⟩ := rlsE h
    exact absurd h2.1 (by simp)
  · exact h

end Go.Proofs.Ythlhbjnkohinmaa
