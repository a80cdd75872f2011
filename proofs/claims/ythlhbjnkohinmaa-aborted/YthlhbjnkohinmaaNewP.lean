/- The program's New. -/
import Derived.Test.YthlhbjnkohinmaaRead
namespace Go.Proofs.Ythlhbjnkohinmaa
open Go.RowKit

theorem ReadAns.zero {s : ByteArray} {x p : Int} {o : Option (List RuleP)} (h : ReadAns s x p o) : (x = 0 ∧ p = 0 ∧ ∃ R, o = some R) ∨ (1 ≤ x ∧ x ≤ 4 ∧ o = none) := by
  rcases h with ⟨_, rfl, rfl, rfl⟩ | ⟨R, j, _, _, rfl, rfl, rfl⟩ | ⟨R, j, m, _, _, _, rfl, rfl, rfl⟩ | ⟨R, j, m, _, _, _, _, rfl, rfl, rfl⟩ | ⟨R, j, _, _, _, _, rfl, rfl, rfl⟩
  · right; exact ⟨by omega, by omega, rfl⟩
  · right; exact ⟨by omega, by omega, rfl⟩
  · right; exact ⟨by omega, by omega, rfl⟩
  · right; exact ⟨by omega, by omega, rfl⟩
  · left; exact ⟨rfl, rfl, _, rfl⟩
/-- What New leaves. -/
def NewPost (w : World) (s : ByteArray) (room : Int) (e : Ending) (w' : World) : Prop :=
  ∃ x p o, ReadAns s x p o ∧ w.grownBy w' none ∧
    ((1 ≤ x ∧ x ≤ 4 ∧ e = .returned (.tuple #[.pointer none, .int .i64 x, .int .i64 p])) ∨
     (x = 0 ∧ (room < 1 ∨ 999 < room) ∧ e = .returned (.tuple #[.pointer none, .int .i64 5, .int .i64 0])) ∨
     (x = 0 ∧ 1 ≤ room ∧ room ≤ 999 ∧ ∃ g R v, o = some R ∧ e = .returned (.tuple #[.pointer (some ⟨g, 0, none⟩), .int .i64 0, .int .i64 0]) ∧ w.heap.size ≤ g ∧ w'.heap[g]? = some (.cells ((Try.zeroCells93.setIfInBounds 0 v).setIfInBounds 1 (.int .i64 room)) 93 (0, 0)) ∧ RulesOwn w' w.heap.size s v R))
set_option maxHeartbeats 1000000 in
theorem new_any (s : ByteArray) (room : Int) (w : World) (hs : s.size ≤ maxLen) :
    Calls Try.prog 27 #[.string s, .int .i64 room] w (NewPost w s room) := by
  go_enter Try.func27, Try.ntmps27
  go_wp2_with fail
  go_at_call 46
  refine (read_any s w hs).mono ?_
  rintro e w1 ⟨v, x, p, o, rfl, ha, ho, hn, hg⟩
  have HA := hid ha
  rcases ha.zero with ⟨rfl, rfl, R, rfl⟩ | ⟨hx1, hx2, rfl⟩
  · have HO := hid (ho R rfl)
    obtain ⟨xs, hown, hpar⟩ := ho R rfl
    obtain ⟨a, m, c, rfl⟩ := own_slice hown
    clear hpar hown ho ha hn
    by_cases h1 : room < 1
    · go_wp2
      go_ret3
      exact ⟨_, _, _, HA.out, hg, .inr (.inl ⟨rfl, .inl h1, rfl⟩)⟩
    · by_cases h2 : 999 < room
      · go_wp2
        go_ret3
        exact ⟨_, _, _, HA.out, hg, .inr (.inl ⟨rfl, .inr h2, rfl⟩)⟩
      · have hsz := hg.size
        go_wp2
        go_ret3
        exact ⟨_, _, _, HA.out, grown_alloc hg _, .inr (.inr ⟨rfl, by omega, by omega, w1.heap.size, R, _, rfl, rfl, hsz, heap_alloc_new w1 _, RulesOwn_kept HO.out (World.grownBy_alloc w1 _ none)⟩)⟩
  · have hv := hn rfl
    subst hv
    have hx0 : (x != 0) = true := by simp; omega
    clear ho ha hn
    go_wp2
    go_ret3
    exact ⟨_, _, _, HA.out, hg, .inl ⟨hx1, hx2, rfl⟩⟩

end Go.Proofs.Ythlhbjnkohinmaa
