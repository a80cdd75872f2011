import Derived.Test.YthlhbjnkohinmaaPart19
import Derived.Test.YthlhbjnkohinmaaPart17
import Derived.Test.YthlhbjnkohinmaaPart00
/- The engine that New makes, with its rules; engine of any text. -/
namespace Go.Proofs.Ythlhbjnkohinmaa
open Go.RowKit

theorem own_still {w w' : World} {B : Nat} {e : TypeId} {size : Nat} {v : Value} {n : Nat} {xs : List Value} (h : w.ownsRow B e size v n xs)
    (hk : ∀ g cs, B ≤ g → w.heap[g]? = some (.cells cs e (0, 0)) → w'.heap[g]? = w.heap[g]?) : w'.ownsRow 0 e size v n xs := by
  obtain ⟨h1, h2⟩ := h
  refine ⟨h1, ?_⟩
  rcases h2 with h2 | ⟨g, cap, cur, rfl, hb, hh, h3⟩
  · exact .inl h2
  · exact .inr ⟨g, cap, cur, rfl, Nat.zero_le _, (hk g _ hb hh).trans hh, h3⟩
/-- Blocks from B on, but for those of one type, are as they were. -/
def SameOut (B : Nat) (t1 : TypeId) (w w' : World) : Prop := ∀ g cs t, B ≤ g → w.heap[g]? = some (.cells cs t (0, 0)) → t ≠ t1 → w'.heap[g]? = w.heap[g]?
theorem Parts_still {w w' : World} {B : Nat} {s : ByteArray} (hk : SameOut B 93 w w') : ∀ (R : List RuleP) (xs : List Value), Parts w B s R xs → Parts w' 0 s R xs
  | [], _, h => h
  | r :: R, xs, h => by
    obtain ⟨a1, m1, c1, a2, m2, c2, ys, rfl, k1, k2, k3⟩ := h
    exact ⟨a1, m1, c1, a2, m2, c2, ys, rfl, own_still k1 (fun g cs h1 h2 => hk g cs _ h1 h2 (by decide)), own_still k2 (fun g cs h1 h2 => hk g cs _ h1 h2 (by decide)), Parts_still hk R ys k3⟩
theorem RulesOwn_still {w w' : World} {B : Nat} {s : ByteArray} {v : Value} {R : List RuleP} (h : RulesOwn w B s v R) (hk : SameOut B 93 w w') : RulesOwn w' 0 s v R := by
  obtain ⟨xs, h1, h2⟩ := h
  exact ⟨xs, own_still h1 (fun g cs a b => hk g cs _ a b (by decide)), Parts_still hk R xs h2⟩
theorem RulesOwn_low {w : World} {B B' : Nat} {s : ByteArray} {v : Value} {R : List RuleP} (hb : B' ≤ B) (h : RulesOwn w B s v R) : RulesOwn w B' s v R := by
  obtain ⟨xs, h1, h2⟩ := h
  refine ⟨xs, own_mono h1 hb, ?_⟩
  clear h1
  induction R generalizing xs with
  | nil => exact h2
  | cons r R ih =>
    obtain ⟨b1, n1, d1, b2, n2, d2, ys, e, k1, k2, k3⟩ := h2
    exact ⟨b1, n1, d1, b2, n2, d2, ys, e, own_mono k1 hb, own_mono k2 hb, ih ys k3⟩
/-- The blocks from B on, but for one. -/
def restBut (w : World) (B x : Nat) : List Nat := (List.range w.heap.size).filter fun g => decide (B ≤ g) && decide (g ≠ x)
theorem restBut_mem {w : World} {B x g : Nat} : g ∈ restBut w B x ↔ g < w.heap.size ∧ B ≤ g ∧ g ≠ x := by simp [restBut]
theorem restBut_nodup (w : World) (B x : Nat) : (restBut w B x).Nodup := List.nodup_range.sublist List.filter_sublist
theorem PRul.fresh {w : World} {B x : Nat} {r : Src} {c1 : Array Value} (h1 : RulesOwn w B r.2.1 r.1.1 r.2.2) (hx : w.heap[x]? = some (.cells c1 93 (0, 0))) : PRul r w (restBut w B x) := by
  refine ⟨fun b hb => (restBut_mem.mp hb).1, fun w' h => ?_⟩
  refine RulesOwn_still h1 (fun g cs t hb hg t1 => h g (restBut_mem.mpr ⟨lt_of_block hg, hb, ?_⟩))
  intro e
  subst e
  rw [hx] at hg
  simp at hg
  exact t1 hg.2.symm
/-- An engine whose blocks are all new. -/
def ENew (x : Nat) (X : PEng) (w w' : World) : Prop := ∃ f, PEngE x X (fun _ => noMk) w' f ∧ f.Nodup ∧ (∀ y ∈ f, w.heap.size ≤ y) ∧ Fr [] w w'
theorem ENew.mk' {w w' : World} {x : Nat} {r : Src} {c1 : Array Value} (hx : w.heap.size ≤ x) (hb : w'.heap[x]? = some (.cells c1 93 (0, 0))) (hp : PEngA x (X0 r) w' [x]) (ho : RulesOwn w' w.heap.size r.2.1 r.1.1 r.2.2) (hf : Fr [] w w') : ENew x (X0 ((.bool false, r.1.2), r.2)) w w' := by
  have hm : mksL (X0 r) = [] := rfl
  refine ⟨[x] ++ (mksL (X0 r) ++ restBut w' w.heap.size x), ⟨X0 r, ⟨[x], _, hp, ⟨_, _, ⟨fun k _ p _ => rfl, rfl⟩, PRul.fresh ho hb, rfl⟩, rfl⟩, rfl⟩, ?_, ?_, hf⟩
  · rw [hm]
    simp only [List.nil_append, List.singleton_append, List.nodup_cons]
    exact ⟨fun e => (restBut_mem.mp e).2.2 rfl, restBut_nodup _ _ _⟩
  · intro y hy
    rw [hm] at hy
    simp only [List.nil_append, List.singleton_append, List.mem_cons] at hy
    rcases hy with e | e
    · omega
    · exact (restBut_mem.mp e).2.1
theorem fit0 (r : Src) (h : 1 ≤ r.1.2 ∧ r.1.2 ≤ 999) : Fit 0 (X0 r) :=
  ⟨⟨Int.le_refl 0, Int.le_refl 0⟩, ⟨Int.le_refl 0, Int.le_refl 0⟩, fun _ _ => ⟨Int.le_refl 0, Int.le_refl 0⟩, fun _ _ _ _ _ => .inl rfl, fun _ _ => ⟨Int.le_refl 0, Int.le_refl 0⟩, fun _ _ => ⟨Int.le_refl 0, Int.le_refl 0⟩, fun _ _ c v e => (by cases e), fun _ => inc_nil, fun c p hp => (by cases hp), (by
    have e : keptN (X0 r) 60 = 0 := rfl
    rw [e]
    show ((0 : Nat) : Int) ≤ r.1.2
    omega), h⟩

set_option maxRecDepth 20000 in
set_option maxHeartbeats 1000000 in
/-- engine of any text. -/
theorem engine_any (s : ByteArray) (room : Int) (w : World) (hs : s.size ≤ maxLen) (h1 : 1 ≤ room) (h2 : room ≤ 999) :
    Calls Try.prog 9 #[.string s, .int .i64 room] w fun e w' => (e = .returned (.tuple #[.pointer none, .bool true]) ∧ Fr [] w w' ∧ ∃ x p, ReadAns s x p none ∧ 1 ≤ x) ∨ ∃ x r, e = .returned (.tuple #[.pointer (some ⟨x, 0, none⟩), .bool true]) ∧ ENew x (X0 r) w w' ∧ r.1.2 = room ∧ r.2.1 = s ∧ ReadAns s 0 0 (some r.2.2) ∧ r.1.1 = .bool false := by
  have HW := hid (works_any w)
  have HN := hid (fun W => new_any s room W hs)
  go_enter Try.func9, Try.ntmps9
  go_wp2_with fail
  go_at_call 26
  refine HW.out.mono ?_
  rintro e w1 ⟨rfl, hf1⟩
  have HF1 := hid hf1
  clear hf1
  go_wp2_with fail
  go_at_call 27
  refine (HN.out _).mono ?_
  rintro e w2 ⟨x, p, o, ha, hg1, hcase⟩
  have HA := hid ha
  have HG := hid (HF1.out.trans (fr_none hg1))
  rcases hcase with ⟨x1, x4, rfl⟩ | ⟨rfl, hroom, rfl⟩ | ⟨rfl, r1, r2, g, R, v, rfl, rfl, hgw, hgb, hro⟩
  · have ho : o = none := by
      rcases ha.zero with ⟨h, _⟩ | ⟨_, _, h⟩
      · omega
      · exact h
    subst ho
    clear ha hg1
    by_cases q1 : x = 1
    · subst q1
      go_wp2_with fail
      go_ret2
      exact .inl ⟨rfl, HG.out, 1, p, HA.out, by omega⟩
    by_cases q2 : x = 2
    · subst q2
      go_wp2_with fail
      go_ret2
      exact .inl ⟨rfl, HG.out, 2, p, HA.out, by omega⟩
    by_cases q3 : x = 3
    · subst q3
      go_wp2_with fail
      go_ret2
      exact .inl ⟨rfl, HG.out, 3, p, HA.out, by omega⟩
    · have q4 : x = 4 := by omega
      subst q4
      go_wp2_with fail
      go_ret2
      exact .inl ⟨rfl, HG.out, 4, p, HA.out, by omega⟩
  · omega
  · have HP : p = 0 := by
      rcases ha.zero with ⟨_, h, _⟩ | ⟨h, _⟩
      · exact h
      · omega
    subst HP
    have HE : Hid (ENew g (X0 ((.bool false, room), s, R)) w w2) := hid (.mk' (r := ((v, room), s, R)) (Nat.le_trans HF1.out.size hgw) hgb (fresh_prog (s, R) hgb) (RulesOwn_low HF1.out.size hro) HG.out)
    clear ha hg1 hgw hgb hro
    go_wp2_with fail
    go_ret2
    exact .inr ⟨g, ((.bool false, room), s, R), rfl, HE.out, rfl, rfl, HA.out, rfl⟩

end Go.Proofs.Ythlhbjnkohinmaa

/- An engine in the statements' loops. -/
namespace Go.Proofs.Ythlhbjnkohinmaa
open Go.RowKit

/-- An engine behind i acts, in a loop: its blocks are new, all that is old is as it was. -/
structure ELoop (base x : Nat) (w : World) (i : Nat) (wr : World) (X : PEng) (F : Mks) (f : List Nat) (r : Src) : Prop where
  at' : PEngE x X F wr f
  nd : f.Nodup
  fit : Fit i X
  src : X.src = r
  above : ∀ g ∈ f, base ≤ g
  below : Below base w wr
  room : base ≤ wr.heap.size
theorem ELoop.start {x : Nat} {r : Src} {w w1 : World} (h : ENew x (X0 r) w w1) (h1 : 1 ≤ r.1.2 ∧ r.1.2 ≤ 999) : ∃ f, ELoop w.heap.size x w 0 w1 (X0 r) (fun _ => noMk) f r := by
  obtain ⟨f, a, n, s, r'⟩ := h
  exact ⟨f, a, n, fit0 r h1, rfl, s, r'.below (Nat.le_refl _) (by simp), r'.size⟩
theorem ELoop.step {base x : Nat} {w : World} {i j : Nat} {wr wr' : World} {X X' : PEng} {F F' : Mks} {f : List Nat} {r : Src} (h : ELoop base x w i wr X F f r) (ht : ATo (PEngE x X' F') f wr wr') (hg : Fit j X') (hs : X'.src = X.src) : ∃ f', ELoop base x w j wr' X' F' f' r := by
  obtain ⟨f', a, n, s, r'⟩ := ht
  have hroom := h.room
  refine ⟨f', a, n, hg, hs.trans h.src, fun g hg => ?_, h.below.trans (r'.below hroom h.above), Nat.le_trans hroom r'.size⟩
  rcases s g hg with h1 | h1
  · exact h.above g h1
  · omega
theorem ELoop.quiet {base x : Nat} {w : World} {i : Nat} {wr wr' : World} {X : PEng} {F : Mks} {f : List Nat} {r : Src} (h : ELoop base x w i wr X F f r) (hf : Fr [] wr wr') : ELoop base x w i wr' X F f r :=
  ⟨PEngE.framed _ _ _ h.at' hf (by simp), h.nd, h.fit, h.src, h.above, h.below.trans (hf.below h.room (by simp)), Nat.le_trans h.room hf.size⟩
theorem ELoop.up {base x : Nat} {w : World} {i j : Nat} {wr : World} {X : PEng} {F : Mks} {f : List Nat} {r : Src} (h : ELoop base x w i wr X F f r) (hij : i ≤ j) : ELoop base x w j wr X F f r :=
  ⟨h.at', h.nd, h.fit.mono hij, h.src, h.above, h.below, h.room⟩
/-- What is known behind an act. -/
def ENext (base x : Nat) (w : World) (i : Nat) (X : PEng) (F : Mks) (r : Src) (w' : World) : Prop := ∃ f', ELoop base x w i w' X F f' r
theorem ELoop.acts {base x : Nat} {w : World} {i : Nat} {wr : World} {X : PEng} {F : Mks} {f : List Nat} {r : Src} (h : ELoop base x w i wr X F f r) (hi : i ≤ 100000000000000) (hR : RulesP r.2.1 r.2.2) (kd b c : Int) (s : ByteArray) (hs63 : s.size < 9223372036854775808) :
    Calls Try.prog 16 #[.pointer (some ⟨x, 0, none⟩), actV kd b c s] wr fun e w' => e = .returned (ansV (pact X F kd b c s).1.1 (pact X F kd b c s).1.2.1 (pact X F kd b c s).1.2.2.1 (pact X F kd b c s).1.2.2.2) ∧ ENext base x w (i + 1) (pact X F kd b c s).2.1 (pact X F kd b c s).2.2 r w' := by
  have hR' : RulesP X.src.2.1 X.src.2.2 := by rw [h.src]; exact hR
  refine (eact x X F f i kd b c s wr h.at' h.nd h.fit hi hR' hs63).mono ?_
  rintro e w' ⟨rfl, ht⟩
  exact ⟨rfl, h.step ht (h.fit.act F kd b c s hR') (pact_src h.fit F kd b c s)⟩
theorem ELoop.views {base x : Nat} {w : World} {i : Nat} {wr : World} {X : PEng} {F : Mks} {f : List Nat} {r : Src} (h : ELoop base x w i wr X F f r) (hi : i ≤ 100000000000000) (n : Int) :
    Calls Try.prog 14 #[.pointer (some ⟨x, 0, none⟩), .int .i64 n] wr fun e w' => e = .returned (.tuple #[.string (pviewF X n).1, .int .i64 (pviewF X n).2]) ∧ ENext base x w i X F r w' := by
  refine (eview_to x X F f i n wr h.at' h.nd h.fit hi).mono ?_
  rintro e w' ⟨rfl, ht⟩
  exact ⟨rfl, h.step ht h.fit rfl⟩
theorem ELoop.matches {base x : Nat} {w : World} {i : Nat} {wr : World} {X : PEng} {F : Mks} {f : List Nat} {r : Src} (h : ELoop base x w i wr X F f r) (hi : i ≤ 100000000000000) (hR : RulesP r.2.1 r.2.2) (n : Int) :
    Calls Try.prog 17 #[.pointer (some ⟨x, 0, none⟩), .int .i64 n] wr fun e w' => e = .returned (.tuple #[.string (pmatE X F n).1, .int .i64 (pmatE X F n).2]) ∧ ENext base x w i X F r w' := by
  refine (ematches_to x X F f i n wr h.at' h.nd h.fit hi (by rw [h.src]; exact hR)).mono ?_
  rintro e w' ⟨rfl, ht⟩
  exact ⟨rfl, h.step ht h.fit rfl⟩
theorem ELoop.opens {base x : Nat} {w : World} {i : Nat} {wr : World} {X : PEng} {F : Mks} {f : List Nat} {r : Src} (h : ELoop base x w i wr X F f r) (hi : i ≤ 100000000000000) :
    Calls Try.prog 13 #[.pointer (some ⟨x, 0, none⟩)] wr fun e w' => e = .returned (.tuple #[.int .i64 (popenF X).1.1, .int .i64 (popenF X).1.2]) ∧ ENext base x w (i + 1) (popenF X).2 (nextF X (popenF X).2 F) r w' := by
  refine (eopen_to x X F f i wr h.at' h.nd h.fit hi).mono ?_
  rintro e w' ⟨rfl, ht⟩
  exact ⟨rfl, h.step ht h.fit.open (popen_plain X h.fit.opened.1).2.2.1⟩

/-- What a session that was just opened is. -/
theorem open_spec {i : Nat} {X : PEng} (h : Fit i X) : ((popenF X).1 = (0, 7)) ∨ ∃ k, k < 8 ∧ (popenF X).1 = (X.opened + 1, 0) ∧ ((popenF X).2.ses k).num = X.opened + 1 ∧ 1 ≤ X.opened + 1 := by
  have ho := h.opened
  unfold popenF
  cases hf : numberedP X 0 with
  | none => exact .inl rfl
  | some k =>
    obtain ⟨hk, _⟩ := numberedP_some hf
    refine .inr ⟨k, hk, rfl, ?_, by omega⟩
    show (upd X.ses k _ k).num = _
    rw [upd_same]
    rfl
theorem ELoop.aborts {base x : Nat} {w : World} {i : Nat} {wr : World} {X : PEng} {F : Mks} {f : List Nat} {r : Src} (h : ELoop base x w i wr X F f r) (_hi : i ≤ 100000000000000) (n : Int) :
    Calls Try.prog 23 #[.pointer (some ⟨x, 0, none⟩), .int .i64 n] wr fun e w' => e = .returned (.int .i64 (pabortF X n).1) ∧ ENext base x w (i + 1) (pabortF X n).2 (nextF X (pabortF X n).2 F) r w' := by
  refine (eabort_to x X F f n wr h.at' h.nd).mono ?_
  rintro e w' ⟨rfl, ht⟩
  exact ⟨rfl, h.step ht (h.fit.abort n) (pabort_plain X n).2.2.1⟩
theorem ELoop.sweeps {base x : Nat} {w : World} {i : Nat} {wr : World} {X : PEng} {F : Mks} {f : List Nat} {r : Src} (h : ELoop base x w i wr X F f r) (hi : i ≤ 100000000000000) :
    Calls Try.prog 24 #[.pointer (some ⟨x, 0, none⟩)] wr fun e w' => e = .returned (.int .i64 (psweepF X).1) ∧ ENext base x w (i + 1) (psweepF X).2 (nextF X (psweepF X).2 F) r w' := by
  refine (esweep_to x X F f i wr h.at' h.nd h.fit hi).mono ?_
  rintro e w' ⟨rfl, ht⟩
  exact ⟨rfl, h.step ht h.fit.sweep (psweep_plain X).2.2.1⟩
theorem ELoop.keeps {base x : Nat} {w : World} {i : Nat} {wr : World} {X : PEng} {F : Mks} {f : List Nat} {r : Src} (h : ELoop base x w i wr X F f r) (hi : i ≤ 100000000000000) :
    Calls Try.prog 25 #[.pointer (some ⟨x, 0, none⟩)] wr fun e w' => e = .returned (.int .i64 (keptN X 60 : Nat)) ∧ ENext base x w i X F r w' := by
  refine (ekept_to x X F f i wr h.at' h.nd h.fit hi).mono ?_
  rintro e w' ⟨rfl, ht⟩
  exact ⟨rfl, h.step ht h.fit rfl⟩
theorem ELoop.runs {base x : Nat} {w : World} {i : Nat} {wr : World} {X : PEng} {F : Mks} {f : List Nat} {r : Src} (h : ELoop base x w i wr X F f r) (hi : i ≤ 100000000000000) (hR : RulesP r.2.1 r.2.2) (n c : Int) :
    Calls Try.prog 19 #[.pointer (some ⟨x, 0, none⟩), .int .i64 n, .int .i64 c] wr fun e w' => e = .returned (.tuple #[.int .i64 (prunE X F n c).1.1, .int .i64 (prunE X F n c).1.2.1, .int .i64 (prunE X F n c).1.2.2]) ∧ ENext base x w (i + 1) (prunE X F n c).2.1 (prunE X F n c).2.2 r w' := by
  have hR' : RulesP X.src.2.1 X.src.2.2 := by rw [h.src]; exact hR
  refine (erun_to x X F f i n c wr h.at' h.nd h.fit hi hR').mono ?_
  rintro e w' ⟨rfl, ht⟩
  exact ⟨rfl, h.step ht (h.fit.run F n c hR') (pact_src (s := ByteArray.empty) h.fit F 8 n c)⟩

def kpickF (c n : Int) : Int := (if c < 0 then -(c + 1) else c) % n
theorem kpickF_bd (c n : Int) (h : 0 < n) : 0 ≤ kpickF c n ∧ kpickF c n < n := ⟨Int.emod_nonneg _ (by omega), Int.emod_lt_of_pos _ h⟩
set_option maxHeartbeats 400000 in
theorem kpick_any (c : Int) (n : Nat) (w : World) (hc : -9223372036854775808 ≤ c) (hc2 : c ≤ 9223372036854775807) (hn : 0 < n) (hn2 : n ≤ 9223372036854775807) :
    Calls Try.prog 18 #[.int .i64 c, .int .i64 n] w fun e w' => e = .returned (.int .i64 (kpickF c n)) ∧ w' = w := by
  by_cases h : c < 0
  · have e : kpickF c n = (-(c + 1)) % (n : Int) := by simp [kpickF, h]
    rw [e]; clear e
    go_enter Try.func18, Try.ntmps18
    go_wp2
    go_ret
    exact ⟨ret_int (by rw [← Int.neg_tmod, Int.tmod_eq_emod_of_nonneg (by omega)]), rfl⟩
  · have e : kpickF c n = c % (n : Int) := by simp [kpickF, h]
    rw [e]; clear e
    go_enter Try.func18, Try.ntmps18
    go_wp2
    go_ret
    exact ⟨rfl, rfl⟩

end Go.Proofs.Ythlhbjnkohinmaa
