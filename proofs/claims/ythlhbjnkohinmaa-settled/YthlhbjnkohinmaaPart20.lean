import Derived.Test.YthlhbjnkohinmaaPart19
import Derived.Test.YthlhbjnkohinmaaPart00
/- An engine in the statements' loops. -/
namespace Go.Proofs.Ythlhbjnkohinmaa
open Go.RowKit

/-- An engine behind i acts, in a loop: its blocks are new, all that is old is as it was. -/
structure ELoop (base x : Nat) (w : World) (i : Nat) (wr : World) (X : PEng) (F : Mks) (f : List Nat) (r : Src) : Prop where
  at' : PEngE x X F wr f
  nd : f.Nodup
  fit : Fit i X
  src : X.src = r
  above : ∀ g ∈ f, base ≤ g
  below : Below base w wr
  room : base ≤ wr.heap.size
theorem ELoop.start {x : Nat} {r : Src} {w w1 : World} (h : ENew x (X0 r) w w1) (h1 : 1 ≤ r.1.2 ∧ r.1.2 ≤ 999) : ∃ f, ELoop w.heap.size x w 0 w1 (X0 r) (fun _ => noMk) f r := by
  obtain ⟨f, a, n, s, r'⟩ := h
  exact ⟨f, a, n, fit0 r h1, rfl, s, r'.below (Nat.le_refl _) (by simp), r'.size⟩
theorem ELoop.step {base x : Nat} {w : World} {i j : Nat} {wr wr' : World} {X X' : PEng} {F F' : Mks} {f : List Nat} {r : Src} (h : ELoop base x w i wr X F f r) (ht : ATo (PEngE x X' F') f wr wr') (hg : Fit j X') (hs : X'.src = X.src) : ∃ f', ELoop base x w j wr' X' F' f' r := by
  obtain ⟨f', a, n, s, r'⟩ := ht
  have hroom := h.room
  refine ⟨f', a, n, hg, hs.trans h.src, fun g hg => ?_, h.below.trans (r'.below hroom h.above), Nat.le_trans hroom r'.size⟩
  rcases s g hg with h1 | h1
  · exact h.above g h1
  · omega
theorem ELoop.quiet {base x : Nat} {w : World} {i : Nat} {wr wr' : World} {X : PEng} {F : Mks} {f : List Nat} {r : Src} (h : ELoop base x w i wr X F f r) (hf : Fr [] wr wr') : ELoop base x w i wr' X F f r :=
  ⟨PEngE.framed _ _ _ h.at' hf (by simp), h.nd, h.fit, h.src, h.above, h.below.trans (hf.below h.room (by simp)), Nat.le_trans h.room hf.size⟩
theorem ELoop.up {base x : Nat} {w : World} {i j : Nat} {wr : World} {X : PEng} {F : Mks} {f : List Nat} {r : Src} (h : ELoop base x w i wr X F f r) (hij : i ≤ j) : ELoop base x w j wr X F f r :=
  ⟨h.at', h.nd, h.fit.mono hij, h.src, h.above, h.below, h.room⟩
/-- What is known behind an act. -/
def ENext (base x : Nat) (w : World) (i : Nat) (X : PEng) (F : Mks) (r : Src) (w' : World) : Prop := ∃ f', ELoop base x w i w' X F f' r
theorem ELoop.acts {base x : Nat} {w : World} {i : Nat} {wr : World} {X : PEng} {F : Mks} {f : List Nat} {r : Src} (h : ELoop base x w i wr X F f r) (hi : i ≤ 100000000000000) (hR : RulesP r.2.1 r.2.2) (kd b c : Int) (s : ByteArray) (hs63 : s.size < 9223372036854775808) :
    Calls Try.prog 16 #[.pointer (some ⟨x, 0, none⟩), actV kd b c s] wr fun e w' => e = .returned (ansV (pact X F kd b c s).1.1 (pact X F kd b c s).1.2.1 (pact X F kd b c s).1.2.2.1 (pact X F kd b c s).1.2.2.2) ∧ ENext base x w (i + 1) (pact X F kd b c s).2.1 (pact X F kd b c s).2.2 r w' := by
  have hR' : RulesP X.src.2.1 X.src.2.2 := by rw [h.src]; exact hR
  refine (eact x X F f i kd b c s wr h.at' h.nd h.fit hi hR' hs63).mono ?_
  rintro e w' ⟨rfl, ht⟩
  exact ⟨rfl, h.step ht (h.fit.act F kd b c s hR') (pact_src h.fit F kd b c s)⟩
theorem ELoop.views {base x : Nat} {w : World} {i : Nat} {wr : World} {X : PEng} {F : Mks} {f : List Nat} {r : Src} (h : ELoop base x w i wr X F f r) (hi : i ≤ 100000000000000) (n : Int) :
    Calls Try.prog 14 #[.pointer (some ⟨x, 0, none⟩), .int .i64 n] wr fun e w' => e = .returned (.tuple #[.string (pviewF X n).1, .int .i64 (pviewF X n).2]) ∧ ENext base x w i X F r w' := by
  refine (eview_to x X F f i n wr h.at' h.nd h.fit hi).mono ?_
  rintro e w' ⟨rfl, ht⟩
  exact ⟨rfl, h.step ht h.fit rfl⟩
theorem ELoop.matches {base x : Nat} {w : World} {i : Nat} {wr : World} {X : PEng} {F : Mks} {f : List Nat} {r : Src} (h : ELoop base x w i wr X F f r) (hi : i ≤ 100000000000000) (hR : RulesP r.2.1 r.2.2) (n : Int) :
    Calls Try.prog 17 #[.pointer (some ⟨x, 0, none⟩), .int .i64 n] wr fun e w' => e = .returned (.tuple #[.string (pmatE X F n).1, .int .i64 (pmatE X F n).2]) ∧ ENext base x w i X F r w' := by
  refine (ematches_to x X F f i n wr h.at' h.nd h.fit hi (by rw [h.src]; exact hR)).mono ?_
  rintro e w' ⟨rfl, ht⟩
  exact ⟨rfl, h.step ht h.fit rfl⟩
theorem ELoop.opens {base x : Nat} {w : World} {i : Nat} {wr : World} {X : PEng} {F : Mks} {f : List Nat} {r : Src} (h : ELoop base x w i wr X F f r) (hi : i ≤ 100000000000000) :
    Calls Try.prog 13 #[.pointer (some ⟨x, 0, none⟩)] wr fun e w' => e = .returned (.tuple #[.int .i64 (popenF X).1.1, .int .i64 (popenF X).1.2]) ∧ ENext base x w (i + 1) (popenF X).2 (nextF X (popenF X).2 F) r w' := by
  refine (eopen_to x X F f i wr h.at' h.nd h.fit hi).mono ?_
  rintro e w' ⟨rfl, ht⟩
  exact ⟨rfl, h.step ht h.fit.open (popen_plain X h.fit.opened.1).2.2.1⟩

/-- What a session that was just opened is. -/
theorem open_spec {i : Nat} {X : PEng} (h : Fit i X) : ((popenF X).1 = (0, 7)) ∨ ∃ k, k < 8 ∧ (popenF X).1 = (X.opened + 1, 0) ∧ ((popenF X).2.ses k).num = X.opened + 1 ∧ 1 ≤ X.opened + 1 := by
  have ho := h.opened
  unfold popenF
  cases hf : numberedP X 0 with
  | none => exact .inl rfl
  | some k =>
    obtain ⟨hk, _⟩ := numberedP_some hf
    refine .inr ⟨k, hk, rfl, ?_, by omega⟩
    show (upd X.ses k _ k).num = _
    rw [upd_same]
    rfl
theorem ELoop.aborts {base x : Nat} {w : World} {i : Nat} {wr : World} {X : PEng} {F : Mks} {f : List Nat} {r : Src} (h : ELoop base x w i wr X F f r) (_hi : i ≤ 100000000000000) (n : Int) :
    Calls Try.prog 23 #[.pointer (some ⟨x, 0, none⟩), .int .i64 n] wr fun e w' => e = .returned (.int .i64 (pabortF X n).1) ∧ ENext base x w (i + 1) (pabortF X n).2 (nextF X (pabortF X n).2 F) r w' := by
  refine (eabort_to x X F f n wr h.at' h.nd).mono ?_
  rintro e w' ⟨rfl, ht⟩
  exact ⟨rfl, h.step ht (h.fit.abort n) (pabort_plain X n).2.2.1⟩
theorem ELoop.sweeps {base x : Nat} {w : World} {i : Nat} {wr : World} {X : PEng} {F : Mks} {f : List Nat} {r : Src} (h : ELoop base x w i wr X F f r) (hi : i ≤ 100000000000000) :
    Calls Try.prog 24 #[.pointer (some ⟨x, 0, none⟩)] wr fun e w' => e = .returned (.int .i64 (psweepF X).1) ∧ ENext base x w (i + 1) (psweepF X).2 (nextF X (psweepF X).2 F) r w' := by
  refine (esweep_to x X F f i wr h.at' h.nd h.fit hi).mono ?_
  rintro e w' ⟨rfl, ht⟩
  exact ⟨rfl, h.step ht h.fit.sweep (psweep_plain X).2.2.1⟩
theorem ELoop.keeps {base x : Nat} {w : World} {i : Nat} {wr : World} {X : PEng} {F : Mks} {f : List Nat} {r : Src} (h : ELoop base x w i wr X F f r) (hi : i ≤ 100000000000000) :
    Calls Try.prog 25 #[.pointer (some ⟨x, 0, none⟩)] wr fun e w' => e = .returned (.int .i64 (keptN X 60 : Nat)) ∧ ENext base x w i X F r w' := by
  refine (ekept_to x X F f i wr h.at' h.nd h.fit hi).mono ?_
  rintro e w' ⟨rfl, ht⟩
  exact ⟨rfl, h.step ht h.fit rfl⟩
theorem ELoop.runs {base x : Nat} {w : World} {i : Nat} {wr : World} {X : PEng} {F : Mks} {f : List Nat} {r : Src} (h : ELoop base x w i wr X F f r) (hi : i ≤ 100000000000000) (hR : RulesP r.2.1 r.2.2) (n c : Int) :
    Calls Try.prog 19 #[.pointer (some ⟨x, 0, none⟩), .int .i64 n, .int .i64 c] wr fun e w' => e = .returned (.tuple #[.int .i64 (prunE X F n c).1.1, .int .i64 (prunE X F n c).1.2.1, .int .i64 (prunE X F n c).1.2.2]) ∧ ENext base x w (i + 1) (prunE X F n c).2.1 (prunE X F n c).2.2 r w' := by
  have hR' : RulesP X.src.2.1 X.src.2.2 := by rw [h.src]; exact hR
  refine (erun_to x X F f i n c wr h.at' h.nd h.fit hi hR').mono ?_
  rintro e w' ⟨rfl, ht⟩
  exact ⟨rfl, h.step ht (h.fit.run F n c hR') (pact_src (s := ByteArray.empty) h.fit F 8 n c)⟩

def kpickF (c n : Int) : Int := (if c < 0 then -(c + 1) else c) % n
theorem kpickF_bd (c n : Int) (h : 0 < n) : 0 ≤ kpickF c n ∧ kpickF c n < n := ⟨Int.emod_nonneg _ (by omega), Int.emod_lt_of_pos _ h⟩
set_option maxHeartbeats 400000 in
theorem kpick_any (c : Int) (n : Nat) (w : World) (hc : -9223372036854775808 ≤ c) (hc2 : c ≤ 9223372036854775807) (hn : 0 < n) (hn2 : n ≤ 9223372036854775807) :
    Calls Try.prog 18 #[.int .i64 c, .int .i64 n] w fun e w' => e = .returned (.int .i64 (kpickF c n)) ∧ w' = w := by
  by_cases h : c < 0
  · have e : kpickF c n = (-(c + 1)) % (n : Int) := by simp [kpickF, h]
    rw [e]; clear e
    go_enter Try.func18, Try.ntmps18
    go_wp2
    go_ret
    exact ⟨ret_int (by rw [← Int.neg_tmod, Int.tmod_eq_emod_of_nonneg (by omega)]), rfl⟩
  · have e : kpickF c n = c % (n : Int) := by simp [kpickF, h]
    rw [e]; clear e
    go_enter Try.func18, Try.ntmps18
    go_wp2
    go_ret
    exact ⟨rfl, rfl⟩

end Go.Proofs.Ythlhbjnkohinmaa

/- A run of n and m firings: plain. -/
namespace Go.Proofs.Ythlhbjnkohinmaa
open Go.RowKit

theorem runS_none {s : ByteArray} {R : List RuleP} {f : Nat → Int × Option Int} {S : PSes} {fm : Nat → Option Int} (h : fstS s R f S fm = none) : ∀ n, runS s R f n S fm = ((0, 1), S, fm)
  | 0 => by unfold runS; rw [h]; rfl
  | n + 1 => by unfold runS; rw [h]
/-- One run behind another. -/
def runThen (r q : (Nat × Int) × PSes × (Nat → Option Int)) : (Nat × Int) × PSes × (Nat → Option Int) := ((r.1.1 + q.1.1, q.1.2), q.2)
theorem runS_add (s : ByteArray) (R : List RuleP) (f : Nat → Int × Option Int) (m : Nat) : ∀ (n : Nat) (S : PSes) (fm : Nat → Option Int),
    ((runS s R f n S fm).1.2 = 2 → (runS s R f n S fm).1.1 = n ∧ runS s R f (n + m) S fm = runThen (runS s R f n S fm) (runS s R f m (runS s R f n S fm).2.1 (runS s R f n S fm).2.2)) ∧ ((runS s R f n S fm).1.2 ≠ 2 → runS s R f (n + m) S fm = runS s R f n S fm)
  | 0, S, fm => by
    have e : runS s R f 0 S fm = ((0, if (fstS s R f S fm).isSome then 2 else 1), S, fm) := rfl
    rw [e, Nat.zero_add]
    cases hf : fstS s R f S fm with
    | none =>
      refine ⟨fun h => by simp at h, fun _ => ?_⟩
      rw [runS_none hf m]
      simp
    | some i =>
      refine ⟨fun _ => ⟨rfl, ?_⟩, fun h => by simp at h⟩
      unfold runThen
      simp
  | n + 1, S, fm => by
    have e0 : n + 1 + m = (n + m) + 1 := by omega
    rw [e0]
    cases hf : fstS s R f S fm with
    | none =>
      rw [runS_none hf (n + 1), runS_none hf (n + m + 1)]
      exact ⟨fun h => by simp at h, fun _ => rfl⟩
    | some i =>
      cases ho : outA s i.env (R.getD i.rule (0, [], [])).2.2 with
      | none =>
        have e : ∀ n, runS s R f (n + 1) S fm = ((0, 4), S, fm) := fun n => by
          show (match fstS s R f S fm with | none => _ | some i => _) = _
          rw [hf]
          simp only []
          rw [ho]
        rw [e, e]
        exact ⟨fun h => by simp at h, fun _ => rfl⟩
      | some q =>
        cases hq : q.2 with
        | true =>
          have e : ∀ n, runS s R f (n + 1) S fm = ((1, 3), puts S q.1, upd fm (plcN i) (some (latF i.facts))) := fun n => by
            show (match fstS s R f S fm with | none => _ | some i => _) = _
            rw [hf]
            simp only []
            rw [ho]
            simp only []
            rw [hq]
            rfl
          rw [e, e]
          exact ⟨fun h => by simp at h, fun _ => rfl⟩
        | false =>
          have e : ∀ n, runS s R f (n + 1) S fm = (((runS s R f n (puts S q.1) (upd fm (plcN i) (some (latF i.facts)))).1.1 + 1, (runS s R f n (puts S q.1) (upd fm (plcN i) (some (latF i.facts)))).1.2), (runS s R f n (puts S q.1) (upd fm (plcN i) (some (latF i.facts)))).2) := fun n => by
            show (match fstS s R f S fm with | none => _ | some i => _) = _
            rw [hf]
            simp only []
            rw [ho]
            simp only []
            rw [hq]
            rfl
          obtain ⟨ih1, ih2⟩ := runS_add s R f m n (puts S q.1) (upd fm (plcN i) (some (latF i.facts)))
          rw [e, e]
          refine ⟨fun h => ?_, fun h => ?_⟩
          · obtain ⟨a1, a2⟩ := ih1 h
            refine ⟨by simp only; rw [a1], ?_⟩
            rw [a2]
            unfold runThen
            simp only
            congr 2
            omega
          · rw [ih2 h]

theorem runS_le (s : ByteArray) (R : List RuleP) (f : Nat → Int × Option Int) : ∀ (n : Nat) (S : PSes) (fm : Nat → Option Int), (runS s R f n S fm).1.1 ≤ n
  | 0, _, _ => Nat.le_refl 0
  | n + 1, S, fm => by
    unfold runS
    cases fstS s R f S fm with
    | none => exact Nat.zero_le _
    | some i =>
      simp only []
      cases outA s i.env (R.getD i.rule (0, [], [])).2.2 with
      | none => exact Nat.zero_le _
      | some q =>
        simp only []
        split
        · show 1 ≤ n + 1; omega
        · have := runS_le s R f n (puts S q.1) (upd fm (plcN i) (some (latF i.facts)))
          show (runS s R f n (puts S q.1) (upd fm (plcN i) (some (latF i.facts)))).1.1 + 1 ≤ n + 1
          omega
theorem prun_le (X : PEng) (F : Mks) (b c : Int) : 0 ≤ (prunE X F b c).1.1 ∧ (prunE X F b c).1.1 ≤ 99 := by
  unfold prunE
  cases findP X b with
  | none => simp
  | some k =>
    simp only []
    split
    · rename_i hc
      have := runS_le X.src.2.1 X.src.2.2 (fun c => histV (X.hist c) (X.ses k).snap) c.toNat (X.ses k) (F k)
      show 0 ≤ (((runS X.src.2.1 X.src.2.2 (fun c => histV (X.hist c) (X.ses k).snap) c.toNat (X.ses k) (F k)).1.1 : Nat) : Int) ∧ (((runS X.src.2.1 X.src.2.2 (fun c => histV (X.hist c) (X.ses k).snap) c.toNat (X.ses k) (F k)).1.1 : Nat) : Int) ≤ 99
      omega
    · simp
theorem upd_upd {α : Type} (f : Nat → α) (k : Nat) (a b : α) : upd (upd f k a) k b = upd f k b := by
  funext j
  unfold upd
  split <;> rfl
theorem setSes_twice (X : PEng) (k : Nat) (S T : PSes) : (X.setSes k S).setSes k T = X.setSes k T := by
  unfold PEng.setSes
  simp only []
  rw [upd_upd]
theorem findP_set {X : PEng} {n : Int} {k : Nat} {S : PSes} (hf : findP X n = some k) (hs : S.num = (X.ses k).num) : findP (X.setSes k S) n = some k := by
  have e : ∀ j, ((X.setSes k S).ses j).num = (X.ses j).num := fun j => by
    show (upd X.ses k S j).num = _
    unfold upd
    split
    · rename_i h; rw [hs, h]
    · rfl
  have : findP (X.setSes k S) n = findP X n := by
    unfold findP numberedP
    simp only [e]
  rw [this, hf]
/-- A run of n and m is a run of n, and of m behind it if the fuel was spent. -/
theorem prun_add {i : Nat} {X : PEng} (hg : Fit i X) (F : Mks) (b : Int) (n m : Nat) (hR : RulesP X.src.2.1 X.src.2.2) (hnm : n + m ≤ 99) :
    (prunE X F b ((n : Int) + m)).1.2.2 = (prunE X F b n).1.2.2 ∧
    ((prunE X F b n).1.2.1 = 2 → (prunE X F b n).1.1 = n ∧ (prunE (prunE X F b n).2.1 (prunE X F b n).2.2 b m).1.2.2 = 0 ∧ (prunE X F b ((n : Int) + m)).1.1 = (prunE X F b n).1.1 + (prunE (prunE X F b n).2.1 (prunE X F b n).2.2 b m).1.1 ∧ (prunE X F b ((n : Int) + m)).1.2.1 = (prunE (prunE X F b n).2.1 (prunE X F b n).2.2 b m).1.2.1 ∧ (prunE X F b ((n : Int) + m)).2 = (prunE (prunE X F b n).2.1 (prunE X F b n).2.2 b m).2) ∧
    ((prunE X F b n).1.2.1 ≠ 2 → prunE X F b ((n : Int) + m) = prunE X F b n) := by
  cases hf : findP X b with
  | none =>
    have e : ∀ c, prunE X F b c = ((0, 0, 6), X, F) := fun c => by unfold prunE; rw [hf]
    rw [e, e]
    exact ⟨rfl, fun h => by simp at h, fun _ => rfl⟩
  | some k =>
    have hk := (findP_spec hf).1
    have e : ∀ c : Nat, c ≤ 99 → prunE X F b (c : Int) = (((((runX X F k c).1.1 : Nat) : Int), (runX X F k c).1.2, 0), X.setSes k (runX X F k c).2.1, upd F k (runX X F k c).2.2) := fun c hc => by
      unfold prunE
      rw [hf]
      simp only []
      rw [if_pos (by omega), Int.toNat_natCast]
    have en : ((n : Int) + m) = ((n + m : Nat) : Int) := by omega
    rw [en, e _ hnm, e n (by omega)]
    have hok := runS_ok hR n (X.ses k) (F k) (hg.wok hk)
    obtain ⟨h1, h2⟩ := runS_add X.src.2.1 X.src.2.2 (fun c => histV (X.hist c) (X.ses k).snap) m n (X.ses k) (F k)
    have hX : ∀ c, runX X F k c = runS X.src.2.1 X.src.2.2 (fun c => histV (X.hist c) (X.ses k).snap) c (X.ses k) (F k) := fun _ => rfl
    refine ⟨rfl, fun h => ?_, fun h => ?_⟩
    · obtain ⟨a1, a2⟩ := h1 h
      have hf2 : findP (X.setSes k (runX X F k n).2.1) b = some k := findP_set hf hok.num
      have hself : (X.setSes k (runX X F k n).2.1).ses k = (runX X F k n).2.1 := upd_same _ _ _
      have hrun : runX (X.setSes k (runX X F k n).2.1) (upd F k (runX X F k n).2.2) k m = runS X.src.2.1 X.src.2.2 (fun c => histV (X.hist c) (X.ses k).snap) m (runX X F k n).2.1 (runX X F k n).2.2 := by
        have hsn : (runX X F k n).2.1.snap = (X.ses k).snap := hok.snap
        show runS X.src.2.1 X.src.2.2 (fun c => histV (X.hist c) ((X.setSes k (runX X F k n).2.1).ses k).snap) m ((X.setSes k (runX X F k n).2.1).ses k) (upd F k (runX X F k n).2.2 k) = _
        rw [hself, upd_same, hsn]
      have e2 : prunE (X.setSes k (runX X F k n).2.1) (upd F k (runX X F k n).2.2) b (m : Int) = (((((runX (X.setSes k (runX X F k n).2.1) (upd F k (runX X F k n).2.2) k m).1.1 : Nat) : Int), (runX (X.setSes k (runX X F k n).2.1) (upd F k (runX X F k n).2.2) k m).1.2, 0), (X.setSes k (runX X F k n).2.1).setSes k (runX (X.setSes k (runX X F k n).2.1) (upd F k (runX X F k n).2.2) k m).2.1, upd (upd F k (runX X F k n).2.2) k (runX (X.setSes k (runX X F k n).2.1) (upd F k (runX X F k n).2.2) k m).2.2) := by
        unfold prunE
        rw [hf2]
        simp only []
        rw [if_pos (by omega), Int.toNat_natCast]
      simp only []
      rw [e2, hrun, setSes_twice, upd_upd, hX (n + m), a2]
      refine ⟨by show ((runX X F k n).1.1 : Int) = n; rw [hX]; exact congrArg _ a1, rfl, ?_, rfl, rfl⟩
      show (((runThen _ _).1.1 : Nat) : Int) = _
      unfold runThen
      rw [hX]
      simp only
      omega
    · have := h2 h
      rw [hX (n + m), hX n, this]

end Go.Proofs.Ythlhbjnkohinmaa
