/- The program's calls, each with the blocks that its engine takes. -/
import Derived.Test.YtcaenpfbihmjmaaPs14
import Derived.Test.YtcaenpfbihmjmaaFresh
import Derived.Test.YtcaenpfbihmjmaaKnown
namespace Go.Proofs.Ytcaenpfbihmjmaa
open Go.RowKit

theorem popen_hist (X : PEng) : (popenF X).2.hist = X.hist := by unfold popenF; cases numberedP X 0 <;> rfl
theorem pput_hist (X : PEng) (n : Int) (s : ByteArray) : (pputF X n s).2.hist = X.hist := by
  unfold pputF
  cases findP X n with
  | none => rfl
  | some k => cases factB s <;> rfl
theorem pclear_hist (X : PEng) (n : Int) (s : ByteArray) : (pclearF X n s).2.hist = X.hist := by
  unfold pclearF
  cases findP X n with
  | none => rfl
  | some k => cases cellB s <;> rfl
theorem pabort_hist (X : PEng) (n : Int) : (pabortF X n).2.hist = X.hist := by
  unfold pabortF
  cases findP X n <;> rfl

theorem popen_to (x : Nat) (X : PEng) (f : List Nat) (w : World) (h : PEngA x X w f) (hn : f.Nodup) (ho : 0 ≤ X.opened ∧ X.opened < 9223372036854775807) :
    Calls Try.prog 12 #[.pointer (some ⟨x, 0, none⟩)] w fun e w' => e = .returned (.tuple #[.int .i64 (popenF X).1.1, .int .i64 (popenF X).1.2]) ∧ ATo (PEngA x (popenF X).2) f w w' := by
  obtain ⟨kv, hk⟩ := h
  refine (popen_any x X kv w hk.1 ho).mono ?_
  rintro e w' ⟨rfl, hp⟩
  exact ⟨rfl, hp.to hk hn (popen_hist X)⟩
theorem pput_to (x : Nat) (X : PEng) (f : List Nat) (n : Int) (s : ByteArray) (w : World) (h : PEngA x X w f) (hn : f.Nodup) (hs63 : s.size < 9223372036854775808) :
    Calls Try.prog 32 #[.pointer (some ⟨x, 0, none⟩), .int .i64 n, .string s] w fun e w' => e = .returned (.int .i64 (pputF X n s).1) ∧ ATo (PEngA x (pputF X n s).2) f w w' := by
  obtain ⟨kv, hk⟩ := h
  refine (pput_any x X kv n s w hk.1 hs63).mono ?_
  rintro e w' ⟨rfl, hp⟩
  exact ⟨rfl, hp.to hk hn (pput_hist X n s)⟩
theorem pclear_to (x : Nat) (X : PEng) (f : List Nat) (n : Int) (s : ByteArray) (w : World) (h : PEngA x X w f) (hn : f.Nodup) (hs63 : s.size < 9223372036854775808) :
    Calls Try.prog 33 #[.pointer (some ⟨x, 0, none⟩), .int .i64 n, .string s] w fun e w' => e = .returned (.int .i64 (pclearF X n s).1) ∧ ATo (PEngA x (pclearF X n s).2) f w w' := by
  obtain ⟨kv, hk⟩ := h
  refine (pclear_any x X kv n s w hk.1 hs63).mono ?_
  rintro e w' ⟨rfl, hp⟩
  exact ⟨rfl, hp.to hk hn (pclear_hist X n s)⟩
theorem pabort_to (x : Nat) (X : PEng) (f : List Nat) (n : Int) (w : World) (h : PEngA x X w f) (hn : f.Nodup) :
    Calls Try.prog 21 #[.pointer (some ⟨x, 0, none⟩), .int .i64 n] w fun e w' => e = .returned (.int .i64 (pabortF X n).1) ∧ ATo (PEngA x (pabortF X n).2) f w w' := by
  obtain ⟨kv, hk⟩ := h
  refine (pabort_any x X kv n w hk.1).mono ?_
  rintro e w' ⟨rfl, hp⟩
  exact ⟨rfl, hp.to hk hn (pabort_hist X n)⟩
theorem pview_to (x : Nat) (X : PEng) (f : List Nat) (n : Int) (w : World) (h : PEngA x X w f) (hl : ∀ c, c < 60 → (X.hist c).length ≤ 9223372036854775807) (hd : ∀ k, findP X n = some k → Digs (seenP X k)) :
    Calls Try.prog 13 #[.pointer (some ⟨x, 0, none⟩), .int .i64 n] w fun e w' => e = .returned (.tuple #[.string (pviewF X n).1, .int .i64 (pviewF X n).2]) ∧ Fr [] w w' := by
  obtain ⟨kv, hk⟩ := h
  refine (pview_any x X kv n w hk.1 hk.rows hl hd).mono ?_
  rintro e w' ⟨rfl, hg⟩
  exact ⟨rfl, fr_none hg⟩

/-- New of a text that is read, and of a room that is one: an engine. -/
theorem pnew_to (s : ByteArray) (room : Int) (w : World) (hs : s.size ≤ maxLen) (hr : ∀ x p o, ReadAns s x p o → x = 0) (h1 : 1 ≤ room) (h2 : room ≤ 999) :
    Calls Try.prog 25 #[.string s, .int .i64 room] w fun e w' => ∃ g, e = .returned (.tuple #[.pointer (some ⟨g, 0, none⟩), .int .i64 0, .int .i64 0]) ∧ w.heap.size ≤ g ∧ PEngA g X0 w' [g] ∧ Fr [] w w' := by
  refine (new_any s room w hs).mono ?_
  rintro e w1 ⟨x, p, o, ha, hg1, hcase⟩
  have hx := hr x p o ha
  rcases hcase with ⟨x1, x4, rfl⟩ | ⟨rfl, hroom, rfl⟩ | ⟨rfl, r1, r2, g, R, v, rfl, rfl, hgw, hgb, hro⟩
  · omega
  · omega
  · exact ⟨g, rfl, hgw, fresh_prog hgb, fr_none hg1⟩

/-- Values that can be seen are digits: by looking at them. -/
theorem Digs.look {g : Nat → Option Int} (h : ((List.range 60).all fun c => match g c with | some v => decide (0 ≤ v ∧ v ≤ 9) | none => true) = true) : Digs g := by
  intro c v hc hv
  rw [List.all_eq_true] at h
  have := h c (by simpa using hc)
  rw [hv] at this
  simpa using this
theorem hist_look {X : PEng} (h : ((List.range 60).all fun c => decide ((X.hist c).length ≤ 99)) = true) : ∀ c, c < 60 → (X.hist c).length ≤ 99 := by
  intro c hc
  rw [List.all_eq_true] at h
  simpa using h c (by simpa using hc)
theorem fr_new {f : List Nat} {w w1 w2 : World} (h : Fr [] w w1) (k : Fr f w1 w2) (hf : ∀ x ∈ f, w.heap.size ≤ x) : Fr [] w w2 := fr_then h k (fun x hx => .inr (hf x hx))

/-! The engine of works, call by call. -/
def a37 : ByteArray := ⟨#[97, 51, 55]⟩
def W1 : PEng := (popenF X0).2
def W2 : PEng := (pputF W1 1 a37).2
def W3 : PEng := (pcommitF W2 1).2
def W4 : PEng := (popenF W3).2
theorem w_open : (popenF X0).1 = (1, 0) := by decide +kernel
theorem w_put : (pputF W1 1 a37).1 = 0 := by decide +kernel
theorem w_view : pviewF W2 1 = (a37, 0) := by decide +kernel
theorem w_commit : (pcommitF W2 1).1 = (1, 0) := by decide +kernel
theorem w_open2 : (popenF W3).1 = (2, 0) := by decide +kernel
theorem w_view2 : pviewF W4 2 = (a37, 0) := by decide +kernel
theorem w_digs : ∀ k, findP W2 1 = some k → Digs (seenP W2 k) := by
  have e : findP W2 1 = some 0 := by decide +kernel
  intro k hk
  rw [e] at hk
  cases hk
  exact .look (by decide +kernel)
theorem w_digs2 : ∀ k, findP W4 2 = some k → Digs (seenP W4 k) := by
  have e : findP W4 2 = some 0 := by decide +kernel
  intro k hk
  rw [e] at hk
  cases hk
  exact .look (by decide +kernel)
theorem w_hist : ∀ c, c < 60 → (W2.hist c).length ≤ 99 := hist_look (by decide +kernel)
theorem w_hist4 : ∀ c, c < 60 → (W4.hist c).length ≤ 99 := hist_look (by decide +kernel)

end Go.Proofs.Ytcaenpfbihmjmaa
