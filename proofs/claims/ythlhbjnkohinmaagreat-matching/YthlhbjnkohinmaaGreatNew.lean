/- New, of the program and of the document. -/
import Derived.Test.YthlhbjnkohinmaaGreatNewP
import Derived.Test.YthlhbjnkohinmaaGreatRefRules
namespace Go.Proofs.YthlhbjnkohinmaaGreat
open Go.RowKit

theorem firstBad_exists (bad : Nat → Prop) : ∀ n, ∃ o, FirstBad bad n o
  | 0 => ⟨none, fun j hj => by omega⟩
  | n + 1 => by
    obtain ⟨o, h⟩ := firstBad_exists bad n
    cases o with
    | some m => exact ⟨some m, by have h1 := h.1; omega, h.2.1, h.2.2⟩
    | none =>
      by_cases hb : bad n
      · exact ⟨some n, by omega, hb, h⟩
      · refine ⟨none, fun j hj => ?_⟩
        by_cases e : j = n
        · rw [e]; exact hb
        · exact h j (by omega)
theorem rls_size {s : ByteArray} {R : List RuleP} {j : Nat} (h : Rls s 0 R j true) : j = s.size := by
  obtain ⟨⟨n, hn, hq⟩, hj⟩ := (rls_goes h).1 rfl
  have := runN_within s n (by rw [hq]; omega)
  omega

set_option maxHeartbeats 1000000 in
theorem rrules_any (s : ByteArray) (w : World) (x p : Int) (o : Option (List RuleP)) (hs : s.size ≤ maxLen) (h : ReadAns s x p o) :
    Calls Tryz.prog 39 #[.string s] w (RRPost w s x p o) := by
  unfold maxLen at hs
  rcases h with ⟨h4, rfl, rfl, rfl⟩ | ⟨R, j, h4, hr, rfl, rfl, rfl⟩ | ⟨R, j, m, h4, hr, hb, rfl, rfl, rfl⟩ | ⟨R, j, m, h4, hr, hb, hu, rfl, rfl, rfl⟩ | ⟨R, j, h4, hr, hb, hu, rfl, rfl, rfl⟩
  · go_enter Tryz.func39, Tryz.ntmps39
    go_wp2
    go_ret3
    exact ⟨_, rfl, (fun R h => by cases h), (fun _ => rfl), grown_refl _ _⟩
  · have HPL := hid (fun W => place_any s W h4)
    have HST := hid ((rls_goes hr).2 rfl)
    clear hr
    go_enter Tryz.func39, Tryz.ntmps39
    go_wp2_with fail
    go_at_call 76
    refine (HPL.out _).mono ?_
    rintro e w' ⟨pp, rfl, hp, rfl⟩
    have hpp := stop_place HST.out hp
    subst hpp
    clear hp
    go_wp2
    go_ret3
    exact ⟨_, rfl, (fun R h => by cases h), (fun _ => rfl), grown_refl _ _⟩
  · have e := rls_size hr
    subst e
    obtain ⟨o2, h2⟩ := firstBad_exists (ubBad s R) R.length
    exact rrules_form s R w _ _ _ h4 hr (some m) hb o2 h2 (fun m' e => by cases e; exact ⟨rfl, rfl, rfl⟩) (fun m' e => by cases e) (fun e => by cases e)
  · have e := rls_size hr
    subst e
    exact rrules_form s R w _ _ _ h4 hr none hb (some m) hu (fun m' e => by cases e) (fun m' _ e => by cases e; exact ⟨rfl, rfl, rfl⟩) (fun _ e => by cases e)
  · have e := rls_size hr
    subst e
    exact rrules_form s R w _ _ _ h4 hr none hb none hu (fun m' e => by cases e) (fun m' _ e => by cases e) (fun _ _ => ⟨rfl, rfl, rfl⟩)

/-- The document's engine, as Fresh makes it. -/
def refCells (v : Value) (room : Int) : Array Value := #[v, .int .i64 room, .slice none 0 0, .slice none 0 0, .slice none 0 0, .int .i64 0]

set_option maxHeartbeats 1000000 in
theorem fresh_err (s : ByteArray) (room : Int) (w : World) (x p : Int) (o : Option (List RuleP)) (hs : s.size ≤ maxLen) (h : ReadAns s x p o) (h1 : 1 ≤ x) :
    Calls Tryz.prog 17 #[.string s, .int .i64 room] w fun e w' => e = .returned (.tuple #[.pointer none, .int .i64 x, .int .i64 p]) ∧ w.grownBy w' none := by
  have hx0 : (x != 0) = true := by simp; omega
  have HR := hid (fun W => rrules_any s W x p o hs h)
  clear h
  go_enter Tryz.func17, Tryz.ntmps17
  go_wp2_with fail
  go_at_call 39
  refine (HR.out _).mono ?_
  rintro e w1 ⟨v, rfl, ho, hn, hg⟩
  clear ho hn
  go_wp2
  go_ret3
  exact ⟨rfl, hg⟩

set_option maxHeartbeats 1000000 in
theorem fresh_room (s : ByteArray) (room : Int) (w : World) (p : Int) (o : Option (List RuleP)) (hs : s.size ≤ maxLen) (h : ReadAns s 0 p o) (h1 : room < 1 ∨ 999 < room) :
    Calls Tryz.prog 17 #[.string s, .int .i64 room] w fun e w' => e = .returned (.tuple #[.pointer none, .int .i64 5, .int .i64 0]) ∧ w.grownBy w' none := by
  have HR := hid (fun W => rrules_any s W 0 p o hs h)
  clear h
  rcases h1 with h1 | h1
  all_goals
    go_enter Tryz.func17, Tryz.ntmps17
    go_wp2_with fail
    go_at_call 39
    refine (HR.out _).mono ?_
    rintro e w1 ⟨v, rfl, ho, hn, hg⟩
    clear ho hn
    go_wp2
    go_ret3
    exact ⟨rfl, hg⟩

set_option maxHeartbeats 1000000 in
theorem fresh_ok (s : ByteArray) (room : Int) (w : World) (p : Int) (R : List RuleP) (hs : s.size ≤ maxLen) (h : ReadAns s 0 p (some R)) (h1 : 1 ≤ room) (h2 : room ≤ 999) :
    Calls Tryz.prog 17 #[.string s, .int .i64 room] w fun e w' => ∃ g v, e = .returned (.tuple #[.pointer (some ⟨g, 0, none⟩), .int .i64 0, .int .i64 0]) ∧ w.heap.size ≤ g ∧ w'.heap[g]? = some (.cells (refCells v room) 40 (0, 0)) ∧ RefOwn w' w.heap.size s v R ∧ w.grownBy w' none := by
  have HR := hid (fun W => rrules_any s W 0 p (some R) hs h)
  clear h
  go_enter Tryz.func17, Tryz.ntmps17
  go_wp2_with fail
  go_at_call 39
  refine (HR.out _).mono ?_
  rintro e w1 ⟨v, rfl, ho, hn, hg⟩
  have HO := hid (ho R rfl)
  obtain ⟨xs, hown, hpar⟩ := ho R rfl
  obtain ⟨a, m, c, rfl⟩ := own_slice hown
  have hsz := hg.size
  clear ho hn hown hpar
  go_wp2
  go_ret3
  exact ⟨w1.heap.size, _, rfl, hsz, heap_alloc_new w1 _, RefOwn_kept HO.out (World.grownBy_alloc w1 _ none), grown_alloc hg _⟩

end Go.Proofs.YthlhbjnkohinmaaGreat
