import Derived.Test.YthlhbjnkohinmaaPart19
import Derived.Test.YthlhbjnkohinmaaPart00
/- An engine in the statements' loops. -/
namespace Go.Proofs.Ythlhbjnkohinmaa
open Go.RowKit

/-- An engine behind i acts, in a loop: its blocks are new, all that is old is as it was. -/
structure ELoop (base x : Nat) (w : World) (i : Nat) (wr : World) (X : PEng) (F : Mks) (f : List Nat) (r : Src) : Prop where
  at' : PEngE x X F wr f
  nd : f.Nodup
  fit : Fit i X
  src : X.src = r
  above : ∀ g ∈ f, base ≤ g
  below : Below base w wr
  room : base ≤ wr.heap.size
theorem ELoop.start {x : Nat} {r : Src} {w w1 : World} (h : ENew x (X0 r) w w1) (h1 : 1 ≤ r.1.2 ∧ r.1.2 ≤ 999) : ∃ f, ELoop w.heap.size x w 0 w1 (X0 r) (fun _ => noMk) f r := by
  obtain ⟨f, a, n, s, r'⟩ := h
  exact ⟨f, a, n, fit0 r h1, rfl, s, r'.below (Nat.le_refl _) (by simp), r'.size⟩
theorem ELoop.step {base x : Nat} {w : World} {i j : Nat} {wr wr' : World} {X X' : PEng} {F F' : Mks} {f : List Nat} {r : Src} (h : ELoop base x w i wr X F f r) (ht : ATo (PEngE x X' F') f wr wr') (hg : Fit j X') (hs : X'.src = X.src) : ∃ f', ELoop base x w j wr' X' F' f' r := by
  obtain ⟨f', a, n, s, r'⟩ := ht
  have hroom := h.room
  refine ⟨f', a, n, hg, hs.trans h.src, fun g hg => ?_, h.below.trans (r'.below hroom h.above), Nat.le_trans hroom r'.size⟩
  rcases s g hg with h1 | h1
  · exact h.above g h1
  · omega
theorem ELoop.quiet {base x : Nat} {w : World} {i : Nat} {wr wr' : World} {X : PEng} {F : Mks} {f : List Nat} {r : Src} (h : ELoop base x w i wr X F f r) (hf : Fr [] wr wr') : ELoop base x w i wr' X F f r :=
  ⟨PEngE.framed _ _ _ h.at' hf (by simp), h.nd, h.fit, h.src, h.above, h.below.trans (hf.below h.room (by simp)), Nat.le_trans h.room hf.size⟩
theorem ELoop.up {base x : Nat} {w : World} {i j : Nat} {wr : World} {X : PEng} {F : Mks} {f : List Nat} {r : Src} (h : ELoop base x w i wr X F f r) (hij : i ≤ j) : ELoop base x w j wr X F f r :=
  ⟨h.at', h.nd, h.fit.mono hij, h.src, h.above, h.below, h.room⟩
/-- What is known behind an act. -/
def ENext (base x : Nat) (w : World) (i : Nat) (X : PEng) (F : Mks) (r : Src) (w' : World) : Prop := ∃ f', ELoop base x w i w' X F f' r
theorem ELoop.acts {base x : Nat} {w : World} {i : Nat} {wr : World} {X : PEng} {F : Mks} {f : List Nat} {r : Src} (h : ELoop base x w i wr X F f r) (hi : i ≤ 100000000000000) (hR : RulesP r.2.1 r.2.2) (kd b c : Int) (s : ByteArray) (hs63 : s.size < 9223372036854775808) :
    Calls Try.prog 16 #[.pointer (some ⟨x, 0, none⟩), actV kd b c s] wr fun e w' => e = .returned (ansV (pact X F kd b c s).1.1 (pact X F kd b c s).1.2.1 (pact X F kd b c s).1.2.2.1 (pact X F kd b c s).1.2.2.2) ∧ ENext base x w (i + 1) (pact X F kd b c s).2.1 (pact X F kd b c s).2.2 r w' := by
  have hR' : RulesP X.src.2.1 X.src.2.2 := by rw [h.src]; exact hR
  refine (eact x X F f i kd b c s wr h.at' h.nd h.fit hi hR' hs63).mono ?_
  rintro e w' ⟨rfl, ht⟩
  exact ⟨rfl, h.step ht (h.fit.act F kd b c s hR') (pact_src h.fit F kd b c s)⟩
theorem ELoop.views {base x : Nat} {w : World} {i : Nat} {wr : World} {X : PEng} {F : Mks} {f : List Nat} {r : Src} (h : ELoop base x w i wr X F f r) (hi : i ≤ 100000000000000) (n : Int) :
    Calls Try.prog 14 #[.pointer (some ⟨x, 0, none⟩), .int .i64 n] wr fun e w' => e = .returned (.tuple #[.string (pviewF X n).1, .int .i64 (pviewF X n).2]) ∧ ENext base x w i X F r w' := by
  refine (eview_to x X F f i n wr h.at' h.nd h.fit hi).mono ?_
  rintro e w' ⟨rfl, ht⟩
  exact ⟨rfl, h.step ht h.fit rfl⟩
theorem ELoop.matches {base x : Nat} {w : World} {i : Nat} {wr : World} {X : PEng} {F : Mks} {f : List Nat} {r : Src} (h : ELoop base x w i wr X F f r) (hi : i ≤ 100000000000000) (hR : RulesP r.2.1 r.2.2) (n : Int) :
    Calls Try.prog 17 #[.pointer (some ⟨x, 0, none⟩), .int .i64 n] wr fun e w' => e = .returned (.tuple #[.string (pmatE X F n).1, .int .i64 (pmatE X F n).2]) ∧ ENext base x w i X F r w' := by
  refine (ematches_to x X F f i n wr h.at' h.nd h.fit hi (by rw [h.src]; exact hR)).mono ?_
  rintro e w' ⟨rfl, ht⟩
  exact ⟨rfl, h.step ht h.fit rfl⟩
theorem ELoop.opens {base x : Nat} {w : World} {i : Nat} {wr : World} {X : PEng} {F : Mks} {f : List Nat} {r : Src} (h : ELoop base x w i wr X F f r) (hi : i ≤ 100000000000000) :
    Calls Try.prog 13 #[.pointer (some ⟨x, 0, none⟩)] wr fun e w' => e = .returned (.tuple #[.int .i64 (popenF X).1.1, .int .i64 (popenF X).1.2]) ∧ ENext base x w (i + 1) (popenF X).2 (nextF X (popenF X).2 F) r w' := by
  refine (eopen_to x X F f i wr h.at' h.nd h.fit hi).mono ?_
  rintro e w' ⟨rfl, ht⟩
  exact ⟨rfl, h.step ht h.fit.open (popen_plain X h.fit.opened.1).2.2.1⟩

/-- What a session that was just opened is. -/
theorem open_spec {i : Nat} {X : PEng} (h : Fit i X) : ((popenF X).1 = (0, 7)) ∨ ∃ k, k < 8 ∧ (popenF X).1 = (X.opened + 1, 0) ∧ ((popenF X).2.ses k).num = X.opened + 1 ∧ 1 ≤ X.opened + 1 := by
  have ho := h.opened
  unfold popenF
  cases hf : numberedP X 0 with
  | none => exact .inl rfl
  | some k =>
    obtain ⟨hk, _⟩ := numberedP_some hf
    refine .inr ⟨k, hk, rfl, ?_, by omega⟩
    show (upd X.ses k _ k).num = _
    rw [upd_same]
    rfl
theorem ELoop.aborts {base x : Nat} {w : World} {i : Nat} {wr : World} {X : PEng} {F : Mks} {f : List Nat} {r : Src} (h : ELoop base x w i wr X F f r) (_hi : i ≤ 100000000000000) (n : Int) :
    Calls Try.prog 23 #[.pointer (some ⟨x, 0, none⟩), .int .i64 n] wr fun e w' => e = .returned (.int .i64 (pabortF X n).1) ∧ ENext base x w (i + 1) (pabortF X n).2 (nextF X (pabortF X n).2 F) r w' := by
  refine (eabort_to x X F f n wr h.at' h.nd).mono ?_
  rintro e w' ⟨rfl, ht⟩
  exact ⟨rfl, h.step ht (h.fit.abort n) (pabort_plain X n).2.2.1⟩
theorem ELoop.sweeps {base x : Nat} {w : World} {i : Nat} {wr : World} {X : PEng} {F : Mks} {f : List Nat} {r : Src} (h : ELoop base x w i wr X F f r) (hi : i ≤ 100000000000000) :
    Calls Try.prog 24 #[.pointer (some ⟨x, 0, none⟩)] wr fun e w' => e = .returned (.int .i64 (psweepF X).1) ∧ ENext base x w (i + 1) (psweepF X).2 (nextF X (psweepF X).2 F) r w' := by
  refine (esweep_to x X F f i wr h.at' h.nd h.fit hi).mono ?_
  rintro e w' ⟨rfl, ht⟩
  exact ⟨rfl, h.step ht h.fit.sweep (psweep_plain X).2.2.1⟩
theorem ELoop.keeps {base x : Nat} {w : World} {i : Nat} {wr : World} {X : PEng} {F : Mks} {f : List Nat} {r : Src} (h : ELoop base x w i wr X F f r) (hi : i ≤ 100000000000000) :
    Calls Try.prog 25 #[.pointer (some ⟨x, 0, none⟩)] wr fun e w' => e = .returned (.int .i64 (keptN X 60 : Nat)) ∧ ENext base x w i X F r w' := by
  refine (ekept_to x X F f i wr h.at' h.nd h.fit hi).mono ?_
  rintro e w' ⟨rfl, ht⟩
  exact ⟨rfl, h.step ht h.fit rfl⟩
theorem ELoop.runs {base x : Nat} {w : World} {i : Nat} {wr : World} {X : PEng} {F : Mks} {f : List Nat} {r : Src} (h : ELoop base x w i wr X F f r) (hi : i ≤ 100000000000000) (hR : RulesP r.2.1 r.2.2) (n c : Int) :
    Calls Try.prog 19 #[.pointer (some ⟨x, 0, none⟩), .int .i64 n, .int .i64 c] wr fun e w' => e = .returned (.tuple #[.int .i64 (prunE X F n c).1.1, .int .i64 (prunE X F n c).1.2.1, .int .i64 (prunE X F n c).1.2.2]) ∧ ENext base x w (i + 1) (prunE X F n c).2.1 (prunE X F n c).2.2 r w' := by
  have hR' : RulesP X.src.2.1 X.src.2.2 := by rw [h.src]; exact hR
  refine (erun_to x X F f i n c wr h.at' h.nd h.fit hi hR').mono ?_
  rintro e w' ⟨rfl, ht⟩
  exact ⟨rfl, h.step ht (h.fit.run F n c hR') (pact_src (s := ByteArray.empty) h.fit F 8 n c)⟩

def kpickF (c n : Int) : Int := (if c < 0 then -(c + 1) else c) % n
theorem kpickF_bd (c n : Int) (h : 0 < n) : 0 ≤ kpickF c n ∧ kpickF c n < n := ⟨Int.emod_nonneg _ (by omega), Int.emod_lt_of_pos _ h⟩
set_option maxHeartbeats 400000 in
theorem kpick_any (c : Int) (n : Nat) (w : World) (hc : -9223372036854775808 ≤ c) (hc2 : c ≤ 9223372036854775807) (hn : 0 < n) (hn2 : n ≤ 9223372036854775807) :
    Calls Try.prog 18 #[.int .i64 c, .int .i64 n] w fun e w' => e = .returned (.int .i64 (kpickF c n)) ∧ w' = w := by
  by_cases h : c < 0
  · have e : kpickF c n = (-(c + 1)) % (n : Int) := by simp [kpickF, h]
    rw [e]; clear e
    go_enter Try.func18, Try.ntmps18
    go_wp2
    go_ret
    exact ⟨ret_int (by rw [← Int.neg_tmod, Int.tmod_eq_emod_of_nonneg (by omega)]), rfl⟩
  · have e : kpickF c n = c % (n : Int) := by simp [kpickF, h]
    rw [e]; clear e
    go_enter Try.func18, Try.ntmps18
    go_wp2
    go_ret
    exact ⟨rfl, rfl⟩

end Go.Proofs.Ythlhbjnkohinmaa

/- What a session sees and matches is its own: plain. -/
namespace Go.Proofs.Ythlhbjnkohinmaa
open Go.RowKit

theorem old_le_latest (X : PEng) : ∀ m, oldN X m ≤ X.latest
  | 0 => Int.le_refl _
  | m + 1 => by
    have := old_le_latest X m
    unfold oldN
    split
    · rename_i h; omega
    · exact this
theorem old_le {X : PEng} {k : Nat} (hn : 0 < (X.ses k).num) : ∀ m, k < m → oldN X m ≤ (X.ses k).snap
  | 0, h => by omega
  | m + 1, h => by
    have h0 : oldN X (m + 1) = if 0 < (X.ses m).num ∧ (X.ses m).snap < oldN X m then (X.ses m).snap else oldN X m := rfl
    by_cases e : k = m
    · subst e
      rw [h0]
      split
      · exact Int.le_refl _
      · rename_i hc
        omega
    · have ih := old_le hn m (by omega)
      rw [h0]
      split
      · rename_i hc; omega
      · exact ih
/-- The session at place k sees and remembers in the second what it does in the first. -/
structure Pict (k : Nat) (X : PEng) (F : Mks) (X' : PEng) (F' : Mks) : Prop where
  ses : X'.ses k = X.ses k
  mrk : F' k = F k
  his : ∀ c, SeenEq (histV (X'.hist c) (X.ses k).snap) (histV (X.hist c) (X.ses k).snap)
theorem Pict.refl (k : Nat) (X : PEng) (F : Mks) : Pict k X F X F := ⟨rfl, rfl, fun _ => .refl _⟩
theorem Pict.trans {k : Nat} {X X' X'' : PEng} {F F' F'' : Mks} (h : Pict k X F X' F') (g : Pict k X' F' X'' F'') : Pict k X F X'' F'' :=
  ⟨g.ses.trans h.ses, g.mrk.trans h.mrk, fun c => by
    have := g.his c
    rw [h.ses] at this
    exact this.trans (h.his c)⟩
theorem Pict.next {k : Nat} {X X' : PEng} {F : Mks} (hs : X'.ses k = X.ses k) (hh : ∀ c, SeenEq (histV (X'.hist c) (X.ses k).snap) (histV (X.hist c) (X.ses k).snap)) : Pict k X F X' (nextF X X' F) :=
  ⟨hs, by unfold nextF; rw [hs, if_pos rfl], hh⟩
theorem Pict.other {k j : Nat} {X X' : PEng} {F : Mks} {S : PSes} (hj : k ≠ j) (hs : X'.ses = upd X.ses j S) (hh : X'.hist = X.hist) : Pict k X F X' (nextF X X' F) :=
  .next (by rw [hs, upd_ne _ _ _ hj]) (fun c => by rw [hh]; exact .refl _)
theorem Pict.idle {k : Nat} {X : PEng} {F : Mks} : Pict k X F X (nextF X X F) := .next rfl (fun _ => .refl _)
theorem swept_pict {i : Nat} {X : PEng} (h : Fit i X) {k : Nat} (hk : k < 8) (hn : 0 < (X.ses k).num) (c : Nat) : SeenEq (histV ((X.swept (oldN X 8)).hist c) (X.ses k).snap) (histV (X.hist c) (X.ses k).snap) :=
  swept_seen (h.inc c) (old_le hn 8 hk)
theorem room_pict {i : Nat} {X : PEng} (h : Fit i X) {k : Nat} (hk : k < 8) (hn : 0 < (X.ses k).num) (m : Nat) (c : Nat) : SeenEq (histV ((roomF X m).2.hist c) (X.ses k).snap) (histV (X.hist c) (X.ses k).snap) := by
  unfold roomF
  split
  · exact .refl _
  · exact swept_pict h hk hn c
theorem pict_act {i : Nat} {X : PEng} (hg : Fit i X) (F : Mks) {k : Nat} (hk : k < 8) {n : Int} (hn : (X.ses k).num = n) (h1 : 1 ≤ n) (kd b c : Int) (s : ByteArray) (hb : b ≠ n) : Pict k X F (pact X F kd b c s).2.1 (pact X F kd b c s).2.2 := by
  have hne : ∀ j, findP X b = some j → k ≠ j := fun j hf e => by
    obtain ⟨_, h2, _⟩ := findP_spec hf
    subst e
    exact hb (by rw [← h2, hn])
  rcases kind_cases kd with h0 | rfl | rfl | rfl | rfl | rfl | rfl | rfl | rfl | rfl | rfl
  · rw [pact_none _ _ _ _ _ _ h0]; exact .refl _ _ _
  · rw [pact_open]
    unfold popenF
    cases hf : numberedP X 0 with
    | none => exact .idle
    | some j =>
      obtain ⟨_, h2⟩ := numberedP_some hf
      exact .other (j := j) (fun e => by subst e; omega) rfl rfl
  · rw [pact_put]
    unfold pputF
    cases hf : findP X b with
    | none => exact .idle
    | some j =>
      cases factB s with
      | false => exact .idle
      | true => exact .other (hne j hf) rfl rfl
  · rw [pact_clear]
    unfold pclearF
    cases hf : findP X b with
    | none => exact .idle
    | some j =>
      cases cellB s with
      | false => exact .idle
      | true => exact .other (hne j hf) rfl rfl
  · exact .refl _ _ _
  · rw [pact_abort]
    unfold pabortF
    cases hf : findP X b with
    | none => exact .idle
    | some j => exact .other (hne j hf) rfl rfl
  · rw [pact_commit]
    unfold pcommitG
    cases hf : findP X b with
    | none => exact .idle
    | some j =>
      simp only []
      cases hasW (X.ses j) with
      | false => exact .other (hne j hf) rfl rfl
      | true =>
        cases clash X (X.ses j) with
        | true => exact .other (hne j hf) rfl rfl
        | false =>
          obtain ⟨_, _, _, r4⟩ := room_plain X (writN (X.ses j) 60)
          have hr := room_pict hg hk (by omega) (writN (X.ses j) 60)
          cases (roomF X (writN (X.ses j) 60)).1 with
          | false => exact .next (by show (roomF X (writN (X.ses j) 60)).2.ses k = _; rw [r4]) hr
          | true =>
            refine .next ?_ (fun c => ?_)
            · show upd (roomF X (writN (X.ses j) 60)).2.ses j .zero k = _
              rw [r4, upd_ne _ _ _ (hne j hf)]
            · have hsn := hg.snap k hk
              have hl : (roomF X (writN (X.ses j) 60)).2.latest = X.latest := by
                unfold roomF
                split <;> rfl
              show SeenEq (histV (match (X.ses j).wr c with | some v => (roomF X (writN (X.ses j) 60)).2.hist c ++ [((roomF X (writN (X.ses j) 60)).2.latest + 1, v)] | none => (roomF X (writN (X.ses j) 60)).2.hist c) (X.ses k).snap) _
              cases (X.ses j).wr c with
              | none => exact hr c
              | some v =>
                simp only []
                rw [histV_snoc, if_neg (by rw [hl]; show ¬ X.latest + 1 ≤ _; omega)]
                exact hr c
  · exact .refl _ _ _
  · rw [pact_run]
    unfold prunE
    cases hf : findP X b with
    | none => exact .refl _ _ _
    | some j =>
      simp only []
      split
      · refine ⟨?_, ?_, fun _ => .refl _⟩
        · show upd X.ses j _ k = _
          rw [upd_ne _ _ _ (hne j hf)]
        · show upd F j _ k = _
          rw [upd_ne _ _ _ (hne j hf)]
      · exact .refl _ _ _
  · exact .refl _ _ _
  · rw [pact_sweep]
    exact .next rfl (fun c => swept_pict hg hk (by omega) c)

theorem Fit.finds {i : Nat} {X : PEng} (h : Fit i X) {k : Nat} (hk : k < 8) {n : Int} (hn : (X.ses k).num = n) (h1 : 1 ≤ n) : findP X n = some k := by
  unfold findP
  rw [if_neg (by omega)]
  cases hf : numberedP X n with
  | none => exact absurd hn (numberedP_none hf k hk)
  | some j =>
    obtain ⟨hj, h2⟩ := numberedP_some hf
    rcases h.uniq j k hj hk (by rw [h2, hn]) with h3 | h3
    · omega
    · rw [h3]
theorem Pict.seen {k : Nat} {X X' : PEng} {F F' : Mks} (h : Pict k X F X' F') (c : Nat) : seenP X' k c = seenP X k c := by
  unfold seenP
  rw [h.ses]
  cases (X.ses k).wr c with
  | some v => rfl
  | none =>
    simp only []
    rw [← histV_two, ← histV_two]
    exact (h.his c).1
theorem Pict.view {k : Nat} {X X' : PEng} {F F' : Mks} (h : Pict k X F X' F') {n : Int} (hf : findP X n = some k) (hf' : findP X' n = some k) : pviewF X' n = pviewF X n := by
  unfold pviewF
  rw [hf, hf']
  simp only []
  unfold viewP
  congr 2
  apply filterMap_same
  intro c _
  rw [h.seen c]
theorem Pict.saw {k : Nat} {X X' : PEng} {F F' : Mks} (h : Pict k X F X' F') : sawX X' k = sawX X k := by
  unfold sawX sawN
  apply filterMap_same
  intro c _
  unfold seenT
  rw [h.ses]
  cases (X.ses k).wr c with
  | some v => rfl
  | none =>
    simp only []
    obtain ⟨h1, h2⟩ := h.his c
    cases hv : (histV (X'.hist c) (X.ses k).snap).2 with
    | none =>
      rw [hv] at h1
      rw [← h1]
      rfl
    | some v =>
      have := h2 (by rw [hv]; rfl)
      rw [← this, hv]
theorem Pict.mat {k : Nat} {X X' : PEng} {F F' : Mks} (h : Pict k X F X' F') (hsrc : X'.src = X.src) {n : Int} (hf : findP X n = some k) (hf' : findP X' n = some k) : pmatE X' F' n = pmatE X F n := by
  unfold pmatE
  rw [hf, hf']
  simp only []
  rw [hsrc, h.saw, h.mrk]

/-- A session's own writes and runs leave it open. -/
theorem mine_num {X : PEng} (F : Mks) {k : Nat} (kd b c : Int) (s : ByteArray) (hR : RulesP X.src.2.1 X.src.2.2) {i : Nat} (hg : Fit i X) (hkd : kd = 2 ∨ kd = 3 ∨ kd = 8) : ((pact X F kd b c s).2.1.ses k).num = (X.ses k).num := by
  have hupd : ∀ j (S : PSes), S.num = (X.ses j).num → (upd X.ses j S k).num = (X.ses k).num := fun j S e => by
    unfold upd
    split
    · rename_i h; rw [e, h]
    · rfl
  rcases hkd with rfl | rfl | rfl
  · rw [pact_put]
    unfold pputF
    cases hf : findP X b with
    | none => rfl
    | some j =>
      cases factB s with
      | false => rfl
      | true => exact hupd j _ rfl
  · rw [pact_clear]
    unfold pclearF
    cases hf : findP X b with
    | none => rfl
    | some j =>
      cases cellB s with
      | false => rfl
      | true => exact hupd j _ rfl
  · rw [pact_run]
    unfold prunE
    cases hf : findP X b with
    | none => rfl
    | some j =>
      simp only []
      split
      · exact hupd j _ (runS_ok hR _ _ _ (hg.wok (findP_spec hf).1)).num
      · rfl

end Go.Proofs.Ythlhbjnkohinmaa

/- Where sweeps are does not matter: plain. -/
namespace Go.Proofs.Ythlhbjnkohinmaa
open Go.RowKit

/-- Two engines that differ in what a sweep would drop, and in nothing else. -/
structure SwEq (X Y : PEng) : Prop where
  src : Y.src = X.src
  opened : Y.opened = X.opened
  ses : Y.ses = X.ses
  latest : Y.latest = X.latest
  last : Y.last = X.last
  his : ∀ c, sweptH (Y.hist c) (oldN X 8) = sweptH (X.hist c) (oldN X 8)
theorem SwEq.refl (X : PEng) : SwEq X X := ⟨rfl, rfl, rfl, rfl, rfl, fun _ => rfl⟩
theorem old_same {X Y : PEng} (h1 : Y.ses = X.ses) (h2 : Y.latest = X.latest) : ∀ m, oldN Y m = oldN X m
  | 0 => h2
  | m + 1 => by
    have e1 : oldN Y (m + 1) = if 0 < (Y.ses m).num ∧ (Y.ses m).snap < oldN Y m then (Y.ses m).snap else oldN Y m := rfl
    have e2 : oldN X (m + 1) = if 0 < (X.ses m).num ∧ (X.ses m).snap < oldN X m then (X.ses m).snap else oldN X m := rfl
    rw [e1, e2, old_same h1 h2 m, h1]
theorem old_ge {X : PEng} {t : Int} (hl : t ≤ X.latest) (hs : ∀ k, k < 8 → 0 < (X.ses k).num → t ≤ (X.ses k).snap) : ∀ m, m ≤ 8 → t ≤ oldN X m
  | 0, _ => hl
  | m + 1, hm => by
    have ih := old_ge hl hs m (by omega)
    have e2 : oldN X (m + 1) = if 0 < (X.ses m).num ∧ (X.ses m).snap < oldN X m then (X.ses m).snap else oldN X m := rfl
    rw [e2]
    split
    · rename_i h
      exact hs m (by omega) h.1
    · exact ih
/-- The same at a later stamp. -/
theorem his_later {h g : Hist} (hi : Inc h) (gi : Inc g) {t u : Int} (htu : t ≤ u) (e : sweptH g t = sweptH h t) : sweptH g u = sweptH h u := by
  rw [← swept_swept hi htu, ← swept_swept gi htu, e]
theorem SwEq.seen {i j : Nat} {X Y : PEng} (h : SwEq X Y) (hX : Fit i X) (hY : Fit j Y) {k : Nat} (hk : k < 8) (hn : 0 < (X.ses k).num) (c : Nat) : SeenEq (histV (Y.hist c) (X.ses k).snap) (histV (X.hist c) (X.ses k).snap) := by
  have ho := old_le hn 8 hk
  have a := swept_seen (hX.inc c) ho
  have b := swept_seen (hY.inc c) ho
  rw [h.his c] at b
  exact b.symm.trans a
theorem SwEq.pict {i j : Nat} {X Y : PEng} (h : SwEq X Y) (hX : Fit i X) (hY : Fit j Y) (F : Mks) {k : Nat} (hk : k < 8) (hn : 0 < (X.ses k).num) : Pict k X F Y F :=
  ⟨by rw [h.ses], rfl, fun c => h.seen hX hY hk hn c⟩
theorem SwEq.find {X Y : PEng} (h : SwEq X Y) (n : Int) : findP Y n = findP X n := by
  unfold findP numberedP
  rw [h.ses]
theorem SwEq.view {i j : Nat} {X Y : PEng} (h : SwEq X Y) (hX : Fit i X) (hY : Fit j Y) (n : Int) : pviewF Y n = pviewF X n := by
  cases hf : findP X n with
  | none =>
    unfold pviewF
    rw [h.find, hf]
  | some k =>
    obtain ⟨hk, h1, h2⟩ := findP_spec hf
    exact (h.pict hX hY (fun _ => noMk) hk (by omega)).view hf (by rw [h.find, hf])
theorem SwEq.mat {i j : Nat} {X Y : PEng} (h : SwEq X Y) (hX : Fit i X) (hY : Fit j Y) (F : Mks) (n : Int) : pmatE Y F n = pmatE X F n := by
  cases hf : findP X n with
  | none =>
    unfold pmatE
    rw [h.find, hf]
  | some k =>
    obtain ⟨hk, h1, h2⟩ := findP_spec hf
    exact (h.pict hX hY F hk (by omega)).mat h.src hf (by rw [h.find, hf])
theorem saw_seen {S : PSes} {f g : Nat → Int × Option Int} (h : ∀ c, SeenEq (g c) (f c)) (n : Nat) : sawN S g n = sawN S f n := by
  unfold sawN
  apply filterMap_same
  intro c _
  unfold seenT
  cases S.wr c with
  | some v => rfl
  | none =>
    simp only []
    obtain ⟨h1, h2⟩ := h c
    cases hv : (g c).2 with
    | none => rw [hv] at h1; rw [← h1]; rfl
    | some v =>
      have := h2 (by rw [hv]; rfl)
      rw [← this, hv]
theorem runS_seen {s : ByteArray} {R : List RuleP} {f g : Nat → Int × Option Int} (h : ∀ c, SeenEq (g c) (f c)) : ∀ (n : Nat) (S : PSes) (fm : Nat → Option Int), runS s R g n S fm = runS s R f n S fm
  | 0, S, fm => by
    have e : fstS s R g S fm = fstS s R f S fm := by unfold fstS; rw [saw_seen h]
    unfold runS
    rw [e]
  | n + 1, S, fm => by
    have e : fstS s R g S fm = fstS s R f S fm := by unfold fstS; rw [saw_seen h]
    unfold runS
    rw [e]
    cases fstS s R f S fm with
    | none => rfl
    | some i =>
      simp only []
      cases outA s i.env (R.getD i.rule (0, [], [])).2.2 with
      | none => rfl
      | some q =>
        simp only []
        rw [runS_seen h n]
/-- The sweep of one of them. -/
theorem SwEq.sweep {j : Nat} {X Y : PEng} (h : SwEq X Y) (hY : Fit j Y) : SwEq X (psweepF Y).2 := by
  have e := old_same h.ses h.latest 8
  refine ⟨h.src, h.opened, h.ses, h.latest, h.last, fun c => ?_⟩
  show sweptH (sweptH (Y.hist c) (oldN Y 8)) (oldN X 8) = _
  rw [e, swept_swept (hY.inc c) (Int.le_refl _)]
  exact h.his c
theorem SwEq.kept {X Y : PEng} (h : SwEq X Y) : ∀ n, keptN (Y.swept (oldN Y 8)) n = keptN (X.swept (oldN X 8)) n
  | 0 => rfl
  | n + 1 => by
    have h1 : keptN (Y.swept (oldN Y 8)) (n + 1) = keptN (Y.swept (oldN Y 8)) n + (sweptH (Y.hist n) (oldN Y 8)).length := rfl
    have h2 : keptN (X.swept (oldN X 8)) (n + 1) = keptN (X.swept (oldN X 8)) n + (sweptH (X.hist n) (oldN X 8)).length := rfl
    rw [h1, h2, h.kept n, old_same h.ses h.latest 8, h.his n]
theorem SwEq.room {i j : Nat} {X Y : PEng} (h : SwEq X Y) (hX : Fit i X) (hY : Fit j Y) (m : Nat) : (roomF Y m).1 = (roomF X m).1 ∧ SwEq (roomF X m).2 (roomF Y m).2 := by
  have hr : Y.room = X.room := by unfold PEng.room; rw [h.src]
  have hk := h.kept 60
  have a := kept_swept_le X (oldN X 8) 60
  have b := kept_swept_le Y (oldN Y 8) 60
  have eo := old_same h.ses h.latest 8
  have key : ∀ Z : PEng, (roomF Z m).1 = decide (((keptN (Z.swept (oldN Z 8)) 60 + m : Nat) : Int) ≤ Z.room) := fun Z => by
    have := kept_swept_le Z (oldN Z 8) 60
    unfold roomF
    split
    · rename_i hc
      simp only
      rw [decide_eq_true (by omega)]
    · rfl
  have hs : ∀ Z : PEng, (roomF Z m).2.ses = Z.ses ∧ (roomF Z m).2.latest = Z.latest ∧ (roomF Z m).2.src = Z.src ∧ (roomF Z m).2.opened = Z.opened ∧ (roomF Z m).2.last = Z.last := fun Z => by
    unfold roomF
    split <;> exact ⟨rfl, rfl, rfl, rfl, rfl⟩
  have hh : ∀ {q : Nat} (Z : PEng), Fit q Z → ∀ c, sweptH ((roomF Z m).2.hist c) (oldN Z 8) = sweptH (Z.hist c) (oldN Z 8) := fun Z hZ c => by
    unfold roomF
    split
    · rfl
    · exact swept_swept (hZ.inc c) (Int.le_refl _)
  refine ⟨by rw [key, key, hk, hr], ?_⟩
  obtain ⟨x1, x2, x3, x4, x5⟩ := hs X
  obtain ⟨y1, y2, y3, y4, y5⟩ := hs Y
  refine ⟨by rw [x3, y3, h.src], by rw [x4, y4, h.opened], by rw [x1, y1, h.ses], by rw [x2, y2, h.latest], by rw [x5, y5, h.last], fun c => ?_⟩
  rw [old_same x1 x2 8, hh X hX c]
  have := hh Y hY c
  rw [eo] at this
  rw [this]
  exact h.his c
/-- Sessions change, the versions do not: as long as no snapshot comes ahead of the oldest. -/
theorem SwEq.sess {i j : Nat} {X Y : PEng} (h : SwEq X Y) (hX : Fit i X) (hY : Fit j Y) {X' Y' : PEng} (hs : Y'.src = X'.src) (ho : Y'.opened = X'.opened) (hse : Y'.ses = X'.ses) (hl : Y'.latest = X'.latest) (hla : Y'.last = X'.last) (h1 : X'.hist = X.hist) (h2 : Y'.hist = Y.hist)
    (hll : X.latest ≤ X'.latest) (hold : ∀ k, k < 8 → 0 < (X'.ses k).num → oldN X 8 ≤ (X'.ses k).snap) : SwEq X' Y' := by
  have hle : oldN X 8 ≤ oldN X' 8 := old_ge (Int.le_trans (old_le_latest X 8) hll) hold 8 (Nat.le_refl _)
  refine ⟨hs, ho, hse, hl, hla, fun c => ?_⟩
  rw [h1, h2]
  exact his_later (hX.inc c) (hY.inc c) hle (h.his c)
theorem old_upd {X : PEng} {k : Nat} {S : PSes} (hS : 0 < S.num → oldN X 8 ≤ S.snap) : ∀ j, j < 8 → 0 < (upd X.ses k S j).num → oldN X 8 ≤ (upd X.ses k S j).snap := fun j hj hn => by
  unfold upd at hn ⊢
  split at hn
  · rename_i e
    rw [if_pos e]
    exact hS hn
  · rename_i e
    rw [if_neg e]
    exact old_le hn 8 hj
theorem SwEq.set {i j : Nat} {X Y : PEng} (h : SwEq X Y) (hX : Fit i X) (hY : Fit j Y) (k : Nat) (S : PSes) (hS : 0 < S.num → oldN X 8 ≤ S.snap) : SwEq (X.setSes k S) (Y.setSes k S) :=
  h.sess hX hY h.src h.opened (by show upd Y.ses k S = upd X.ses k S; rw [h.ses]) h.latest h.last rfl rfl (Int.le_refl _) (old_upd hS)
theorem SwEq.next {X Y X' Y' : PEng} (h : SwEq X Y) (h' : SwEq X' Y') (F : Mks) : nextF Y Y' F = nextF X X' F := by
  unfold nextF
  rw [h.ses, h'.ses]

theorem commit_hist (A : PEng) (S : PSes) (c : Nat) : (S.wr c = none ∧ (A.commit S).hist c = A.hist c) ∨ ∃ v, S.wr c = some v ∧ (A.commit S).hist c = A.hist c ++ [(A.latest + 1, v)] := by
  cases h : S.wr c with
  | none =>
    refine .inl ⟨rfl, ?_⟩
    show (match S.wr c with | some v => A.hist c ++ [(A.latest + 1, v)] | none => A.hist c) = _
    rw [h]
  | some v =>
    refine .inr ⟨v, rfl, ?_⟩
    show (match S.wr c with | some v => A.hist c ++ [(A.latest + 1, v)] | none => A.hist c) = _
    rw [h]
theorem commit_inc {i : Nat} {A : PEng} (h : Fit i A) (S : PSes) (c : Nat) : Inc ((A.commit S).hist c) := by
  rcases commit_hist A S c with ⟨_, e⟩ | ⟨v, _, e⟩
  · rw [e]; exact h.inc c
  · rw [e]
    have hl := h.latest
    exact (h.inc c).snoc (fun q hq => by have := (h.his c q hq).1; show q.1 < A.latest + 1; omega) (by show 1 ≤ A.latest + 1; omega)
theorem SwEq.committed {i j : Nat} {A B : PEng} (hz : SwEq A B) (hA : Fit i A) (hB : Fit j B) (S : PSes) : SwEq (A.commit S) (B.commit S) := by
  have hll := old_le_latest A 8
  have hlt : oldN A 8 < A.latest + 1 := by omega
  have hse : (A.commit S).ses = A.ses := rfl
  have hle : oldN A 8 ≤ oldN (A.commit S) 8 := by
    refine old_ge (X := A.commit S) (t := oldN A 8) (by show oldN A 8 ≤ A.latest + 1; omega) (fun q hq hn => ?_) 8 (Nat.le_refl _)
    rw [hse] at hn ⊢
    exact old_le hn 8 hq
  have hp : ∀ c, sweptH ((B.commit S).hist c) (oldN A 8) = sweptH ((A.commit S).hist c) (oldN A 8) := fun c => by
    rcases commit_hist A S c with ⟨e0, e⟩ | ⟨v, e0, e⟩
    · rcases commit_hist B S c with ⟨_, e'⟩ | ⟨v', e0', _⟩
      · rw [e, e']; exact hz.his c
      · rw [e0] at e0'; cases e0'
    · rcases commit_hist B S c with ⟨e0', _⟩ | ⟨v', e0', e'⟩
      · rw [e0] at e0'; cases e0'
      · rw [e0] at e0'
        cases e0'
        rw [e, e', hz.latest, swept_snoc hlt, swept_snoc hlt, hz.his c]
  refine ⟨hz.src, hz.opened, hz.ses, ?_, ?_, fun c => his_later (commit_inc hA S c) (commit_inc hB S c) hle (hp c)⟩
  · show B.latest + 1 = A.latest + 1
    rw [hz.latest]
  · show (fun c => if (S.wr c).isSome then B.latest + 1 else B.last c) = (fun c => if (S.wr c).isSome then A.latest + 1 else A.last c)
    rw [hz.latest, hz.last]

set_option maxHeartbeats 1000000 in
theorem SwEq.act {i j : Nat} {X Y : PEng} (h : SwEq X Y) (hX : Fit i X) (hY : Fit j Y) (F : Mks) (kd b c : Int) (s : ByteArray) (hR : RulesP X.src.2.1 X.src.2.2) (h9 : kd ≠ 9) (h10 : kd ≠ 10) :
    (pact Y F kd b c s).1 = (pact X F kd b c s).1 ∧ SwEq (pact X F kd b c s).2.1 (pact Y F kd b c s).2.1 ∧ (pact Y F kd b c s).2.2 = (pact X F kd b c s).2.2 := by
  have hfind := h.find b
  have hnum : ∀ k, findP X b = some k → k < 8 ∧ 0 < (X.ses k).num ∧ oldN X 8 ≤ (X.ses k).snap := fun k hf => by
    obtain ⟨a1, a2, a3⟩ := findP_spec hf
    exact ⟨a1, by omega, old_le (by omega) 8 a1⟩
  rcases kind_cases kd with h0 | rfl | rfl | rfl | rfl | rfl | rfl | rfl | rfl | rfl | rfl
  · rw [pact_none _ _ _ _ _ _ h0, pact_none _ _ _ _ _ _ h0]
    exact ⟨rfl, h, rfl⟩
  · rw [pact_open, pact_open]
    have hn0 : numberedP Y 0 = numberedP X 0 := by unfold numberedP; rw [h.ses]
    have key : (popenF Y).1 = (popenF X).1 ∧ SwEq (popenF X).2 (popenF Y).2 := by
      unfold popenF
      rw [hn0, h.opened, h.latest]
      cases hf : numberedP X 0 with
      | none => exact ⟨rfl, h⟩
      | some k =>
        refine ⟨rfl, h.sess hX hY h.src rfl (by show upd Y.ses k _ = upd X.ses k _; rw [h.ses]) rfl h.last rfl rfl (Int.le_refl _) (old_upd (fun _ => old_le_latest X 8))⟩
    obtain ⟨k1, k2⟩ := key
    exact ⟨by rw [k1], k2, h.next k2 F⟩
  · rw [pact_put, pact_put]
    have key : (pputF Y b s).1 = (pputF X b s).1 ∧ SwEq (pputF X b s).2 (pputF Y b s).2 := by
      unfold pputF
      rw [hfind]
      cases hf : findP X b with
      | none => exact ⟨rfl, h⟩
      | some k =>
        cases factB s with
        | false => exact ⟨rfl, h⟩
        | true =>
          refine ⟨rfl, ?_⟩
          show SwEq (X.setSes k _) (Y.setSes k _)
          rw [h.ses]
          exact h.set hX hY k _ (fun _ => (hnum k hf).2.2)
    exact ⟨by rw [key.1], key.2, h.next key.2 F⟩
  · rw [pact_clear, pact_clear]
    have key : (pclearF Y b s).1 = (pclearF X b s).1 ∧ SwEq (pclearF X b s).2 (pclearF Y b s).2 := by
      unfold pclearF
      rw [hfind]
      cases hf : findP X b with
      | none => exact ⟨rfl, h⟩
      | some k =>
        cases cellB s with
        | false => exact ⟨rfl, h⟩
        | true =>
          refine ⟨rfl, ?_⟩
          show SwEq (X.setSes k _) (Y.setSes k _)
          rw [h.ses]
          exact h.set hX hY k _ (fun _ => (hnum k hf).2.2)
    exact ⟨by rw [key.1], key.2, h.next key.2 F⟩
  · rw [pact_view, pact_view, h.view hX hY]
    exact ⟨rfl, h, rfl⟩
  · rw [pact_abort, pact_abort]
    have key : (pabortF Y b).1 = (pabortF X b).1 ∧ SwEq (pabortF X b).2 (pabortF Y b).2 := by
      unfold pabortF
      rw [hfind]
      cases hf : findP X b with
      | none => exact ⟨rfl, h⟩
      | some k => exact ⟨rfl, h.set hX hY k .zero (fun e => by cases e)⟩
    exact ⟨by rw [key.1], key.2, h.next key.2 F⟩
  · rw [pact_commit, pact_commit]
    have key : (pcommitG Y b).1 = (pcommitG X b).1 ∧ SwEq (pcommitG X b).2 (pcommitG Y b).2 := by
      unfold pcommitG
      rw [hfind]
      cases hf : findP X b with
      | none => exact ⟨rfl, h⟩
      | some k =>
        simp only []
        have e1 : clash Y (Y.ses k) = clash X (X.ses k) := by unfold clash; rw [h.ses, h.last]
        rw [e1, h.ses, h.latest]
        obtain ⟨r1, r2⟩ := h.room hX hY (writN (X.ses k) 60)
        rw [r1]
        cases hasW (X.ses k) with
        | false => exact ⟨rfl, h.set hX hY k .zero (fun e => by cases e)⟩
        | true =>
          cases clash X (X.ses k) with
          | true => exact ⟨rfl, h.set hX hY k .zero (fun e => by cases e)⟩
          | false =>
            cases (roomF X (writN (X.ses k) 60)).1 with
            | false => exact ⟨rfl, r2⟩
            | true =>
              refine ⟨rfl, ?_⟩
              have hX1 := hX.roomed (writN (X.ses k) 60)
              have hY1 := hY.roomed (writN (X.ses k) 60)
              have hz := r2.set hX1 hY1 k .zero (fun e => by cases e)
              have hX2 := hX1.zero (hnum k hf).1
              have hY2 := hY1.zero (hnum k hf).1
              exact hz.committed hX2 hY2 (X.ses k)
    exact ⟨by rw [key.1], key.2, h.next key.2 F⟩
  · rw [pact_matches, pact_matches, h.mat hX hY]
    exact ⟨rfl, h, rfl⟩
  · rw [pact_run, pact_run]
    unfold prunE
    rw [hfind]
    cases hf : findP X b with
    | none => exact ⟨rfl, h, rfl⟩
    | some k =>
      simp only []
      have er : ∀ n, runX Y F k n = runX X F k n := fun n => by
        unfold runX
        rw [h.src, h.ses]
        exact runS_seen (fun c => h.seen hX hY (hnum k hf).1 (hnum k hf).2.1 c) n _ _
      rw [er]
      split
      · refine ⟨rfl, ?_, rfl⟩
        have hok := runS_ok hR c.toNat (X.ses k) (F k) (hX.wok (hnum k hf).1)
        refine h.set hX hY k _ (fun _ => ?_)
        have : (runX X F k c.toNat).2.1.snap = (X.ses k).snap := hok.snap
        rw [this]
        exact (hnum k hf).2.2
      · exact ⟨rfl, h, rfl⟩
  · exact absurd rfl h9
  · exact absurd rfl h10

end Go.Proofs.Ythlhbjnkohinmaa
