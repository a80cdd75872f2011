/- The program's calls, each with the blocks that its engine takes. -/
import Derived.Test.YthlhbjnkohinmaaPs14
import Derived.Test.YthlhbjnkohinmaaFresh
import Derived.Test.YthlhbjnkohinmaaKnown
namespace Go.Proofs.Ythlhbjnkohinmaa
open Go.RowKit

theorem popen_hist (X : PEng) : (popenF X).2.hist = X.hist := by unfold popenF; cases numberedP X 0 <;> rfl
theorem pput_hist (X : PEng) (n : Int) (s : ByteArray) : (pputF X n s).2.hist = X.hist := by
  unfold pputF
  cases findP X n with
  | none => rfl
  | some k => cases factB s <;> rfl
theorem pclear_hist (X : PEng) (n : Int) (s : ByteArray) : (pclearF X n s).2.hist = X.hist := by
  unfold pclearF
  cases findP X n with
  | none => rfl
  | some k => cases cellB s <;> rfl
theorem pabort_hist (X : PEng) (n : Int) : (pabortF X n).2.hist = X.hist := by
  unfold pabortF
  cases findP X n <;> rfl

theorem popen_to (x : Nat) (X : PEng) (f : List Nat) (w : World) (h : PEngA x X w f) (hn : f.Nodup) (ho : 0 ≤ X.opened ∧ X.opened < 9223372036854775807) :
    Calls Try.prog 13 #[.pointer (some ⟨x, 0, none⟩)] w fun e w' => e = .returned (.tuple #[.int .i64 (popenF X).1.1, .int .i64 (popenF X).1.2]) ∧ ATo (PEngA x (popenF X).2) f w w' := by
  obtain ⟨kv, hk⟩ := h
  refine (popen_any x X kv w hk.1 ho).mono ?_
  rintro e w' ⟨rfl, hp⟩
  exact ⟨rfl, hp.to hk hn (popen_hist X)⟩
theorem pput_to (x : Nat) (X : PEng) (f : List Nat) (n : Int) (s : ByteArray) (w : World) (h : PEngA x X w f) (hn : f.Nodup) (hs63 : s.size < 9223372036854775808) (hm : ∀ k, findP X n = some k → (X.ses k).more) :
    Calls Try.prog 34 #[.pointer (some ⟨x, 0, none⟩), .int .i64 n, .string s] w fun e w' => e = .returned (.int .i64 (pputF X n s).1) ∧ ATo (PEngA x (pputF X n s).2) f w w' := by
  obtain ⟨kv, hk⟩ := h
  refine (pput_any x X kv n s w hk.1 hs63 hm).mono ?_
  rintro e w' ⟨rfl, hp⟩
  exact ⟨rfl, hp.to hk hn (pput_hist X n s)⟩
theorem pclear_to (x : Nat) (X : PEng) (f : List Nat) (n : Int) (s : ByteArray) (w : World) (h : PEngA x X w f) (hn : f.Nodup) (hs63 : s.size < 9223372036854775808) (hm : ∀ k, findP X n = some k → (X.ses k).more) :
    Calls Try.prog 35 #[.pointer (some ⟨x, 0, none⟩), .int .i64 n, .string s] w fun e w' => e = .returned (.int .i64 (pclearF X n s).1) ∧ ATo (PEngA x (pclearF X n s).2) f w w' := by
  obtain ⟨kv, hk⟩ := h
  refine (pclear_any x X kv n s w hk.1 hs63 hm).mono ?_
  rintro e w' ⟨rfl, hp⟩
  exact ⟨rfl, hp.to hk hn (pclear_hist X n s)⟩
theorem pabort_to (x : Nat) (X : PEng) (f : List Nat) (n : Int) (w : World) (h : PEngA x X w f) (hn : f.Nodup) :
    Calls Try.prog 23 #[.pointer (some ⟨x, 0, none⟩), .int .i64 n] w fun e w' => e = .returned (.int .i64 (pabortF X n).1) ∧ ATo (PEngA x (pabortF X n).2) f w w' := by
  obtain ⟨kv, hk⟩ := h
  refine (pabort_any x X kv n w hk.1).mono ?_
  rintro e w' ⟨rfl, hp⟩
  exact ⟨rfl, hp.to hk hn (pabort_hist X n)⟩
theorem pview_to (x : Nat) (X : PEng) (f : List Nat) (n : Int) (w : World) (h : PEngA x X w f) (hl : ∀ c, c < 60 → (X.hist c).length ≤ 9223372036854775807) (hd : ∀ k, findP X n = some k → Digs (seenP X k)) :
    Calls Try.prog 14 #[.pointer (some ⟨x, 0, none⟩), .int .i64 n] w fun e w' => e = .returned (.tuple #[.string (pviewF X n).1, .int .i64 (pviewF X n).2]) ∧ Fr [] w w' := by
  obtain ⟨kv, hk⟩ := h
  refine (pview_any x X kv n w hk.1 hk.rows hl hd).mono ?_
  rintro e w' ⟨rfl, hg⟩
  exact ⟨rfl, fr_none hg⟩

/-- New of a text that is read, and of a room that is one: an engine. -/
theorem pnew_to (s : ByteArray) (room : Int) (w : World) (hs : s.size ≤ maxLen) (hr : ∀ x p o, ReadAns s x p o → x = 0) (h1 : 1 ≤ room) (h2 : room ≤ 999) :
    Calls Try.prog 27 #[.string s, .int .i64 room] w fun e w' => ∃ g, e = .returned (.tuple #[.pointer (some ⟨g, 0, none⟩), .int .i64 0, .int .i64 0]) ∧ w.heap.size ≤ g ∧ (∃ r, PEngA g (X0 r) w' [g] ∧ r.1.2 = room) ∧ Fr [] w w' := by
  refine (new_any s room w hs).mono ?_
  rintro e w1 ⟨x, p, o, ha, hg1, hcase⟩
  have hx := hr x p o ha
  rcases hcase with ⟨x1, x4, rfl⟩ | ⟨rfl, hroom, rfl⟩ | ⟨rfl, r1, r2, g, R, v, rfl, rfl, hgw, hgb, hro⟩
  · omega
  · omega
  · exact ⟨g, rfl, hgw, ⟨_, fresh_prog (s, R) hgb, rfl⟩, fr_none hg1⟩

/-- Values that can be seen are digits: by looking at them. -/
theorem Digs.look {g : Nat → Option Int} (h : ((List.range 60).all fun c => match g c with | some v => decide (0 ≤ v ∧ v ≤ 9) | none => true) = true) : Digs g := by
  intro c v hc hv
  rw [List.all_eq_true] at h
  have := h c (by simpa using hc)
  rw [hv] at this
  simpa using this
theorem hist_look {X : PEng} (h : ((List.range 60).all fun c => decide ((X.hist c).length ≤ 99)) = true) : ∀ c, c < 60 → (X.hist c).length ≤ 99 := by
  intro c hc
  rw [List.all_eq_true] at h
  simpa using h c (by simpa using hc)
theorem fr_new {f : List Nat} {w w1 w2 : World} (h : Fr [] w w1) (k : Fr f w1 w2) (hf : ∀ x ∈ f, w.heap.size ≤ x) : Fr [] w w2 := fr_then h k (fun x hx => .inr (hf x hx))

/-! The engine of works, call by call. -/
def a37 : ByteArray := ⟨#[97, 51, 55]⟩
def W1 (r : Src) : PEng := (popenF (X0 r)).2
def W2 (r : Src) : PEng := (pputF (W1 r) 1 a37).2
def W3 (r : Src) : PEng := (pcommitF (W2 r) 1).2
def W4 (r : Src) : PEng := (popenF (W3 r)).2
theorem w_open (r : Src) : (popenF (X0 r)).1 = (1, 0) := by kernel_rfl
theorem w_put (r : Src) : (pputF (W1 r) 1 a37).1 = 0 := by kernel_rfl
theorem w_view (r : Src) : pviewF (W2 r) 1 = (a37, 0) := by kernel_rfl
theorem w_commit (r : Src) : (pcommitF (W2 r) 1).1 = (1, 0) := by kernel_rfl
theorem w_open2 (r : Src) : (popenF (W3 r)).1 = (2, 0) := by kernel_rfl
theorem w_three (r : Src) : (W3 r).opened = 1 := by kernel_rfl
theorem w_view2 (r : Src) : pviewF (W4 r) 2 = (a37, 0) := by kernel_rfl
theorem w_digs (r : Src) : ∀ k, findP (W2 r) 1 = some k → Digs (seenP (W2 r) k) := by
  have e : findP (W2 r) 1 = some 0 := by kernel_rfl
  intro k hk
  rw [e] at hk
  cases hk
  exact .look (by kernel_rfl)
theorem w_digs2 (r : Src) : ∀ k, findP (W4 r) 2 = some k → Digs (seenP (W4 r) k) := by
  have e : findP (W4 r) 2 = some 0 := by kernel_rfl
  intro k hk
  rw [e] at hk
  cases hk
  exact .look (by kernel_rfl)
theorem w_hist (r : Src) : ∀ c, c < 60 → ((W2 r).hist c).length ≤ 99 := hist_look (by kernel_rfl)
theorem w_room (r : Src) (h : r.1.2 = 9) : (∀ k, findP (W2 r) 1 = some k → ((keptN (W2 r) 60 + writN ((W2 r).ses k) 60 : Nat) : Int) ≤ (W2 r).room) ∧ (W2 r).room ≤ 999 := by
  have e : findP (W2 r) 1 = some 0 := by kernel_rfl
  have h1 : (W2 r).room = 9 := h
  have h2 : keptN (W2 r) 60 + writN ((W2 r).ses 0) 60 = 1 := by kernel_rfl
  refine ⟨fun k hk => ?_, by omega⟩
  rw [e] at hk
  cases hk
  rw [h2, h1]
  decide
theorem w_hist4 (r : Src) : ∀ c, c < 60 → ((W4 r).hist c).length ≤ 99 := hist_look (by kernel_rfl)

/-! No count grows past the steps. -/
structure Few (i : Nat) (X : PEng) : Prop where
  latest : 0 ≤ X.latest ∧ X.latest ≤ i
  ses : ∀ k, k < 8 → 0 ≤ (X.ses k).snap ∧ (X.ses k).snap ≤ i ∧ (X.ses k).made ≤ i
theorem Few.mono {i j : Nat} {X : PEng} (h : Few i X) (hij : i ≤ j) : Few j X := ⟨by have := h.latest; omega, fun k hk => by have := h.ses k hk; omega⟩
theorem Few.setSes {i : Nat} {X : PEng} (h : Few i X) (k : Nat) {S : PSes} (h1 : 0 ≤ S.snap ∧ S.snap ≤ i ∧ S.made ≤ i) : Few i (X.setSes k S) := by
  refine ⟨h.latest, fun j hj => ?_⟩
  show 0 ≤ (upd X.ses k S j).snap ∧ (upd X.ses k S j).snap ≤ i ∧ (upd X.ses k S j).made ≤ i
  by_cases e : j = k
  · subst e; rw [upd_same]; exact h1
  · rw [upd_ne _ _ _ e]; exact h.ses j hj
theorem Few.zero {i : Nat} {X : PEng} (h : Few i X) (k : Nat) : Few i (X.setSes k .zero) := h.setSes k ⟨Int.le_refl 0, by show (0 : Int) ≤ i; omega, by show (0 : Int) ≤ i; omega⟩
theorem findP_lt {X : PEng} {n : Int} {k : Nat} (h : findP X n = some k) : k < 8 := by
  unfold findP at h
  split at h
  · cases h
  · exact (numberedP_some h).1
theorem Few.write {i : Nat} {X : PEng} (h : Few i X) {k : Nat} (hk : k < 8) (c : Nat) (v : Option Int) : Few (i + 1) (X.setSes k ((X.ses k).put c v)) := by
  have := h.ses k hk
  refine (h.mono (Nat.le_succ i)).setSes k ⟨this.1, ?_, ?_⟩
  · show (X.ses k).snap ≤ ((i + 1 : Nat) : Int); omega
  · show (X.ses k).made + 1 ≤ ((i + 1 : Nat) : Int); omega
theorem Few.open {i : Nat} {X : PEng} (h : Few i X) : Few (i + 1) (popenF X).2 := by
  unfold popenF
  cases hf : numberedP X 0 with
  | none => exact h.mono (Nat.le_succ i)
  | some k =>
    have hl := h.latest
    have := (h.mono (Nat.le_succ i)).setSes k (S := .new (X.opened + 1) X.latest) ⟨hl.1, by show X.latest ≤ ((i + 1 : Nat) : Int); omega, by show (0 : Int) ≤ ((i + 1 : Nat) : Int); omega⟩
    exact ⟨this.latest, this.ses⟩
theorem Few.put {i : Nat} {X : PEng} (h : Few i X) (n : Int) (s : ByteArray) : Few (i + 1) (pputF X n s).2 := by
  unfold pputF
  cases hf : findP X n with
  | none => exact h.mono (Nat.le_succ i)
  | some k => cases factB s with
    | false => exact h.mono (Nat.le_succ i)
    | true => exact h.write (findP_lt hf) _ _
theorem Few.clear {i : Nat} {X : PEng} (h : Few i X) (n : Int) (s : ByteArray) : Few (i + 1) (pclearF X n s).2 := by
  unfold pclearF
  cases hf : findP X n with
  | none => exact h.mono (Nat.le_succ i)
  | some k => cases cellB s with
    | false => exact h.mono (Nat.le_succ i)
    | true => exact h.write (findP_lt hf) _ _
theorem Few.abort {i : Nat} {X : PEng} (h : Few i X) (n : Int) : Few (i + 1) (pabortF X n).2 := by
  unfold pabortF
  cases findP X n with
  | none => exact h.mono (Nat.le_succ i)
  | some k => exact (h.mono (Nat.le_succ i)).zero k
theorem Few.commit {i : Nat} {X : PEng} (h : Few i X) (n : Int) : Few (i + 1) (pcommitF X n).2 := by
  have hz := fun k => (h.mono (Nat.le_succ i)).zero k
  unfold pcommitF
  cases findP X n with
  | none => exact h.mono (Nat.le_succ i)
  | some k =>
    simp only []
    cases hasW (X.ses k) with
    | false => exact hz k
    | true =>
      cases clash X (X.ses k) with
      | true => exact hz k
      | false =>
        refine ⟨?_, (hz k).ses⟩
        show 0 ≤ X.latest + 1 ∧ X.latest + 1 ≤ ((i + 1 : Nat) : Int)
        have := h.latest
        omega
theorem Few.more {i : Nat} {X : PEng} (h : Few i X) (hi : i ≤ 4000000000000) {n : Int} {k : Nat} (hf : findP X n = some k) : (X.ses k).more := by
  have := h.ses k (findP_lt hf)
  unfold PSes.more
  omega
theorem few0 (r : Src) : Few 0 (X0 r) := ⟨⟨Int.le_refl 0, Int.le_refl 0⟩, fun _ _ => ⟨Int.le_refl 0, Int.le_refl 0, Int.le_refl 0⟩⟩
theorem w_few (r : Src) : Few 1 (W1 r) := (few0 r).open

end Go.Proofs.Ythlhbjnkohinmaa
