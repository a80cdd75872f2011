import Derived.Test.YthlhbjnkohinmaaPart15
/- The program's calls, wherever the marks lie. -/
namespace Go.Proofs.Ythlhbjnkohinmaa
open Go.RowKit

theorem PAll.rules {x : Nat} {X : PEng} {F : Mks} {w : World} {f : List Nat} (h : PAll x X F w f) : RulesOwn w 0 X.src.2.1 X.src.1.1 X.src.2.2 := by
  obtain ⟨f0, f1, _, ⟨f2, f3, _, h3, _⟩, _⟩ := h
  exact h3.now
theorem eopen_to (x : Nat) (X : PEng) (F : Mks) (f : List Nat) (i : Nat) (w : World) (h : PEngE x X F w f) (hn : f.Nodup) (hg : Fit i X) (hi : i ≤ 100000000000000) :
    Calls Try.prog 13 #[.pointer (some ⟨x, 0, none⟩)] w fun e w' => e = .returned (.tuple #[.int .i64 (popenF X).1.1, .int .i64 (popenF X).1.2]) ∧ ATo (PEngE x (popenF X).2 (nextF X (popenF X).2 F)) f w w' := by
  have ho := hg.opened
  refine PEngE.call (fun X0 => (popenF X0).2) h hn (fun X0 e => ?_) (fun X0 f0 e a n => ?_)
  · subst e
    obtain ⟨_, h2, h3, h4⟩ := popen_plain X0 ho.1
    exact ⟨h2, h3, h4⟩
  · subst e
    obtain ⟨h1, _⟩ := popen_plain X0 ho.1
    rw [← h1]
    exact popen_to x X0 f0 w a n (by have : X0.plain.opened = X0.opened := rfl
                                     omega)
theorem eput_to (x : Nat) (X : PEng) (F : Mks) (f : List Nat) (i : Nat) (n : Int) (s : ByteArray) (w : World) (h : PEngE x X F w f) (hn : f.Nodup) (hg : Fit i X) (hi : i ≤ 100000000000000) (hs63 : s.size < 9223372036854775808) :
    Calls Try.prog 34 #[.pointer (some ⟨x, 0, none⟩), .int .i64 n, .string s] w fun e w' => e = .returned (.int .i64 (pputF X n s).1) ∧ ATo (PEngE x (pputF X n s).2 (nextF X (pputF X n s).2 F)) f w w' := by
  refine PEngE.call (fun X0 => (pputF X0 n s).2) h hn (fun X0 e => ?_) (fun X0 f0 e a nd => ?_)
  · subst e
    obtain ⟨_, h2, h3, h4⟩ := pput_plain X0 n s
    exact ⟨h2, h3, h4⟩
  · subst e
    obtain ⟨h1, _⟩ := pput_plain X0 n s
    rw [← h1]
    exact pput_to x X0 f0 n s w a nd hs63 (fun k hf => (Fit.plain.mpr hg).mores hi hf)
theorem eclear_to (x : Nat) (X : PEng) (F : Mks) (f : List Nat) (i : Nat) (n : Int) (s : ByteArray) (w : World) (h : PEngE x X F w f) (hn : f.Nodup) (hg : Fit i X) (hi : i ≤ 100000000000000) (hs63 : s.size < 9223372036854775808) :
    Calls Try.prog 35 #[.pointer (some ⟨x, 0, none⟩), .int .i64 n, .string s] w fun e w' => e = .returned (.int .i64 (pclearF X n s).1) ∧ ATo (PEngE x (pclearF X n s).2 (nextF X (pclearF X n s).2 F)) f w w' := by
  refine PEngE.call (fun X0 => (pclearF X0 n s).2) h hn (fun X0 e => ?_) (fun X0 f0 e a nd => ?_)
  · subst e
    obtain ⟨_, h2, h3, h4⟩ := pclear_plain X0 n s
    exact ⟨h2, h3, h4⟩
  · subst e
    obtain ⟨h1, _⟩ := pclear_plain X0 n s
    rw [← h1]
    exact pclear_to x X0 f0 n s w a nd hs63 (fun k hf => (Fit.plain.mpr hg).mores hi hf)
theorem eabort_to (x : Nat) (X : PEng) (F : Mks) (f : List Nat) (n : Int) (w : World) (h : PEngE x X F w f) (hn : f.Nodup) :
    Calls Try.prog 23 #[.pointer (some ⟨x, 0, none⟩), .int .i64 n] w fun e w' => e = .returned (.int .i64 (pabortF X n).1) ∧ ATo (PEngE x (pabortF X n).2 (nextF X (pabortF X n).2 F)) f w w' := by
  refine PEngE.call (fun X0 => (pabortF X0 n).2) h hn (fun X0 e => ?_) (fun X0 f0 e a nd => ?_)
  · subst e
    obtain ⟨_, h2, h3, h4⟩ := pabort_plain X0 n
    exact ⟨h2, h3, h4⟩
  · subst e
    obtain ⟨h1, _⟩ := pabort_plain X0 n
    rw [← h1]
    exact pabort_to x X0 f0 n w a nd
theorem ecommit_to (x : Nat) (X : PEng) (F : Mks) (f : List Nat) (i : Nat) (n : Int) (w : World) (h : PEngE x X F w f) (hn : f.Nodup) (hg : Fit i X) (hi : i ≤ 100000000000000) :
    Calls Try.prog 36 #[.pointer (some ⟨x, 0, none⟩), .int .i64 n] w fun e w' => e = .returned (.tuple #[.int .i64 (pcommitG X n).1.1, .int .i64 (pcommitG X n).1.2]) ∧ ATo (PEngE x (pcommitG X n).2 (nextF X (pcommitG X n).2 F)) f w w' := by
  refine PEngE.call (fun X0 => (pcommitG X0 n).2) h hn (fun X0 e => ?_) (fun X0 f0 e a nd => ?_)
  · subst e
    obtain ⟨_, h2, h3, h4⟩ := pcommit_plain X0 n
    exact ⟨h2, h3, h4⟩
  · subst e
    obtain ⟨h1, _⟩ := pcommit_plain X0 n
    rw [← h1]
    have hg0 := Fit.plain.mpr hg
    have hl := hg0.latest
    have hk := hg0.keptN
    exact pcommitG_any x X0 f0 n w a nd (by omega) (fun c hc => by have := hg0.len hc; omega) (by omega)
theorem esweep_to (x : Nat) (X : PEng) (F : Mks) (f : List Nat) (i : Nat) (w : World) (h : PEngE x X F w f) (hn : f.Nodup) (hg : Fit i X) (_hi : i ≤ 100000000000000) :
    Calls Try.prog 24 #[.pointer (some ⟨x, 0, none⟩)] w fun e w' => e = .returned (.int .i64 (psweepF X).1) ∧ ATo (PEngE x (psweepF X).2 (nextF X (psweepF X).2 F)) f w w' := by
  refine PEngE.call (fun X0 => (psweepF X0).2) h hn (fun X0 e => ?_) (fun X0 f0 e a nd => ?_)
  · subst e
    obtain ⟨_, h2, h3, h4⟩ := psweep_plain X0
    exact ⟨h2, h3, h4⟩
  · subst e
    obtain ⟨h1, _⟩ := psweep_plain X0
    rw [← h1]
    have hg0 := Fit.plain.mpr hg
    have hk := hg0.keptN
    exact psweep_any x X0 f0 w a nd (fun c hc => by have := hg0.len hc; omega) (by omega)
theorem ekept_to (x : Nat) (X : PEng) (F : Mks) (f : List Nat) (i : Nat) (w : World) (h : PEngE x X F w f) (hn : f.Nodup) (hg : Fit i X) (_hi : i ≤ 100000000000000) :
    Calls Try.prog 25 #[.pointer (some ⟨x, 0, none⟩)] w fun e w' => e = .returned (.int .i64 (keptN X 60 : Nat)) ∧ ATo (PEngE x X F) f w w' := by
  refine PEngE.see h hn (fun X0 f0 e _ a => ?_)
  subst e
  have hg0 := Fit.plain.mpr hg
  have hk := hg0.keptN
  rw [kept_plain]
  refine (pkept_any x X0 f0 w a (by omega)).mono ?_
  rintro e w' ⟨rfl, rfl⟩
  exact ⟨rfl, Fr.refl _ _⟩
theorem eview_to (x : Nat) (X : PEng) (F : Mks) (f : List Nat) (i : Nat) (n : Int) (w : World) (h : PEngE x X F w f) (hn : f.Nodup) (hg : Fit i X) (_hi : i ≤ 100000000000000) :
    Calls Try.prog 14 #[.pointer (some ⟨x, 0, none⟩), .int .i64 n] w fun e w' => e = .returned (.tuple #[.string (pviewF X n).1, .int .i64 (pviewF X n).2]) ∧ ATo (PEngE x X F) f w w' := by
  refine PEngE.see h hn (fun X0 f0 e _ a => ?_)
  subst e
  have hg0 := Fit.plain.mpr hg
  have hv : pviewF X0.plain n = pviewF X0 n := rfl
  rw [hv]
  exact pview_to x X0 f0 n w a (fun c hc => by have := hg0.len hc; omega) (fun k hf => hg0.seen (findP_spec hf).1)
/-- What Matches tells, where something may be fired. -/
def pmatE (X : PEng) (F : Mks) (n : Int) : ByteArray × Int := match findP X n with
  | none => (ByteArray.empty, 6)
  | some k => (toldT (isort (ltI (wgt X.src.2.1 X.src.2.2)) (opN X.src.2.1 (sawX X k) X.src.2.2 (fdM (F k)) X.src.2.2.length)), 0)
theorem ematches_to (x : Nat) (X : PEng) (F : Mks) (f : List Nat) (i : Nat) (n : Int) (w : World) (h : PEngE x X F w f) (hn : f.Nodup) (hg : Fit i X) (_hi : i ≤ 100000000000000) (hR : RulesP X.src.2.1 X.src.2.2) :
    Calls Try.prog 17 #[.pointer (some ⟨x, 0, none⟩), .int .i64 n] w fun e w' => e = .returned (.tuple #[.string (pmatE X F n).1, .int .i64 (pmatE X F n).2]) ∧ ATo (PEngE x X F) f w w' := by
  refine PEngE.see h hn (fun X0 f0 e hA a => ?_)
  subst e
  have hrl := hA.rules
  have hg0 := Fit.plain.mpr hg
  obtain ⟨kv, hk⟩ := a
  unfold pmatE
  have e1 : findP X0.plain n = findP X0 n := rfl
  rw [e1]
  cases hf : findP X0 n with
  | none =>
    refine (pmatches_none x X0 kv n w hk.1 hf).mono ?_
    rintro e w' ⟨rfl, r⟩
    exact ⟨rfl, fr_none r⟩
  | some k =>
    have hk8 := (findP_spec hf).1
    have hM : MkAt (X0.ses k).mks (F k) w := by
      obtain ⟨_, _, _, ⟨_, _, ⟨h2, _⟩, _, _⟩, _⟩ := hA
      exact h2 k hk8
    have hcell := (hk.1.ses k hk8).mks
    refine (pmatches_some x X0 kv n k X0.src.2.1 X0.src.2.2 X0.src.1.1 0 (fdM (F k)) w hk.1 hk.rows (fun c hc => by have := hg0.len hc; omega) hf (hg0.seen hk8) rfl hrl hR.walk hR.nine (hid (fun j hj ii W hii hW => ?_))).mono ?_
    · obtain ⟨a1, a2⟩ := instR_mem (sawX_le X0 k) j (hR.walk _ (List.getElem_mem hj)) ii hii
      have h9 := hR.nine
      have hj' : j < X0.src.2.2.length := hj
      have h9' : X0.src.2.2.length ≤ 9 := h9
      exact phas_any _ ii x (3 + k * 244 + 243) (X0.ses k).mks (F k) W (by omega) a1 (grown_cell hW hcell) (hM.grown hW)
    · rintro e w' ⟨rfl, r⟩
      exact ⟨rfl, fr_none r⟩

end Go.Proofs.Ythlhbjnkohinmaa

/- A run, wherever the marks lie. -/
namespace Go.Proofs.Ythlhbjnkohinmaa
open Go.RowKit

theorem puts_bare (ws : List (Nat × Option Int)) : ∀ S : PSes, puts S.bare ws = (puts S ws).bare := by
  induction ws with
  | nil => intro S; rfl
  | cons q ws ih =>
    intro S
    exact ih (S.put q.1 q.2)
theorem fstS_bare (s : ByteArray) (R : List RuleP) (f : Nat → Int × Option Int) (S : PSes) (fm : Nat → Option Int) : fstS s R f S.bare fm = fstS s R f S fm := rfl
theorem runS_bare (s : ByteArray) (R : List RuleP) (f : Nat → Int × Option Int) : ∀ (n : Nat) (S : PSes) (fm : Nat → Option Int), runS s R f n S.bare fm = ((runS s R f n S fm).1, (runS s R f n S fm).2.1.bare, (runS s R f n S fm).2.2)
  | 0, S, fm => rfl
  | n + 1, S, fm => by
    unfold runS
    rw [fstS_bare]
    cases fstS s R f S fm with
    | none => rfl
    | some i =>
      simp only []
      cases outA s i.env (R.getD i.rule (0, [], [])).2.2 with
      | none => rfl
      | some q =>
        simp only []
        rw [puts_bare, runS_bare s R f n]
        split <;> rfl
theorem puts_num (ws : List (Nat × Option Int)) : ∀ S : PSes, (puts S ws).num = S.num := by
  induction ws with
  | nil => intro S; rfl
  | cons q ws ih => intro S; exact ih (S.put q.1 q.2)
/-- What a run leaves of a session. -/
structure RunOk (S S' : PSes) (f : Nat → Int × Option Int) (n : Nat) : Prop where
  num : S'.num = S.num
  snap : S'.snap = S.snap
  made : S.made ≤ S'.made ∧ S'.made ≤ S.made + 4 * n
  ok : WOk S' f
theorem runS_ok {s : ByteArray} {R : List RuleP} {f : Nat → Int × Option Int} (hR : RulesP s R) : ∀ (n : Nat) (S : PSes) (fm : Nat → Option Int), WOk S f → RunOk S (runS s R f n S fm).2.1 f n
  | 0, S, fm, h => ⟨rfl, rfl, by show S.made ≤ S.made ∧ S.made ≤ S.made + 4 * ((0 : Nat) : Int); omega, h⟩
  | n + 1, S, fm, h => by
    have same : RunOk S S f (n + 1) := ⟨rfl, rfl, by omega, h⟩
    unfold runS
    cases hi : fstS s R f S fm with
    | none => exact same
    | some i =>
      simp only []
      cases ho : outA s i.env (R.getD i.rule (0, [], [])).2.2 with
      | none => exact same
      | some q =>
        simp only []
        have hr : i.rule < R.length := (inst_all h.facts (sawN_le _ _ _) hR.walk (fstS_mem hi)).1
        have e : R.getD i.rule (0, [], []) = R[i.rule] := by simp [List.getD, List.getElem?_eq_getElem hr]
        rw [e] at ho
        obtain ⟨a1, a2⟩ := hR.acts _ (List.getElem_mem hr)
        have hlen := outA_len s i.env R[i.rule].2.2 _ (Nat.le_refl _) q (by rw [List.take_length]; exact ho)
        have hdig := outA_ok a1 _ (Nat.le_refl _) q (by rw [List.take_length]; exact ho)
        obtain ⟨m1, m2, _⟩ := puts_made q.1 S
        have hw : WOk (puts S q.1) f := h.puts (fun x hx => (hdig x hx).2)
        have hnum := puts_num q.1 S
        cases q.2 with
        | true =>
          refine ⟨hnum, m2, ?_, hw⟩
          show S.made ≤ (puts S q.1).made ∧ (puts S q.1).made ≤ S.made + 4 * ((n + 1 : Nat) : Int)
          rw [m1]
          omega
        | false =>
          have ih := runS_ok hR n (puts S q.1) (upd fm (plcN i) (some (latF i.facts))) hw
          refine ⟨ih.num.trans hnum, ih.snap.trans m2, ?_, ih.ok⟩
          have h1 := ih.made
          rw [m1] at h1
          show S.made ≤ (runS s R f n (puts S q.1) (upd fm (plcN i) (some (latF i.facts)))).2.1.made ∧ (runS s R f n (puts S q.1) (upd fm (plcN i) (some (latF i.facts)))).2.1.made ≤ S.made + 4 * ((n + 1 : Nat) : Int)
          omega

/-- A run of the session at a place. -/
def runX (X : PEng) (F : Mks) (k n : Nat) : (Nat × Int) × PSes × (Nat → Option Int) := runS X.src.2.1 X.src.2.2 (fun c => histV (X.hist c) (X.ses k).snap) n (X.ses k) (F k)
theorem runX_plain (X : PEng) (F : Mks) (k n : Nat) : runX X.plain F k n = ((runX X F k n).1, (runX X F k n).2.1.bare, (runX X F k n).2.2) := runS_bare _ _ _ _ _ _
/-- Run. -/
def prunE (X : PEng) (F : Mks) (n c : Int) : (Int × Int × Int) × PEng × Mks := match findP X n with
  | none => ((0, 0, 6), X, F)
  | some k => if 0 ≤ c ∧ c ≤ 99 then (((runX X F k c.toNat).1.1, (runX X F k c.toNat).1.2, 0), X.setSes k (runX X F k c.toNat).2.1, upd F k (runX X F k c.toNat).2.2) else ((0, 0, 9), X, F)
theorem Fit.wok {i : Nat} {X : PEng} (h : Fit i X) {k : Nat} (hk : k < 8) : WOk (X.ses k) (fun c => histV (X.hist c) (X.ses k).snap) :=
  ⟨h.wr k hk, fun c v hv => (h.his c _ (histV_mem hv)).2 v hv⟩
theorem Fit.run {i : Nat} {X : PEng} (h : Fit i X) (F : Mks) (n c : Int) (hR : RulesP X.src.2.1 X.src.2.2) : Fit (i + 1) (prunE X F n c).2.1 := by
  unfold prunE
  cases hf : findP X n with
  | none => exact h.mono (Nat.le_succ i)
  | some k =>
    simp only []
    split
    · rename_i hc
      have hk := (findP_spec hf).1
      have hr := runS_ok hR c.toNat (X.ses k) (F k) (h.wok hk)
      have hm := h.made k hk
      refine (h.mono (Nat.le_succ i)).setSes hk (.inl hr.num) ?_ ?_ hr.ok.wr
      · have := h.snap k hk
        have e := hr.snap
        show 0 ≤ (runS _ _ _ _ _ _).2.1.snap ∧ (runS _ _ _ _ _ _).2.1.snap ≤ X.latest
        rw [e]
        exact this
      · have e := hr.made
        show 0 ≤ (runS _ _ _ _ _ _).2.1.made ∧ (runS _ _ _ _ _ _).2.1.made ≤ 400 * ((i + 1 : Nat) : Int)
        omega
    · exact h.mono (Nat.le_succ i)

theorem mksL_nodup {X : PEng} : (mksL X).Nodup ↔ ∀ i j, i < j → j < 8 → ∀ g, (X.ses i).mks = some g → (X.ses j).mks ≠ some g := by
  unfold mksL
  rw [List.nodup_iff_pairwise_ne, List.pairwise_filterMap, List.pairwise_iff_getElem]
  constructor
  · intro h i j hij hj g hi e
    have := h i j (by simp; omega) (by simpa using hj) hij g (by simpa using hi) g (by simpa using e)
    exact this rfl
  · intro h i j hi hj hij b hb b' hb' e
    simp only [List.getElem_range] at hb hb'
    have hj8 : j < 8 := by simpa using hj
    subst e
    exact h i j hij hj8 b hb hb'
theorem SesAt.keep {w w' : World} {b o : Nat} {S : PSes} (h : SesAt w b o S) (hc : ∀ i, o ≤ i → i < o + 244 → w'.cell? ⟨b, i, none⟩ = w.cell? ⟨b, i, none⟩) : SesAt w' b o S :=
  ⟨(hc _ (by omega) (by omega)).trans h.num, (hc _ (by omega) (by omega)).trans h.snap, (hc _ (by omega) (by omega)).trans h.cnt, fun c hl => (hc _ (by omega) (by omega)).trans (h.made c hl), fun c hl => (hc _ (by omega) (by omega)).trans (h.filled c hl), fun c hl => (hc _ (by omega) (by omega)).trans (h.val c hl), fun c hl => (hc _ (by omega) (by omega)).trans (h.tm c hl), (hc _ (by omega) (by omega)).trans h.mks, h.ok⟩
theorem RunAt.pat {x k : Nat} {X : PEng} {kv : Nat → Value} {G : List Nat} {S' : PSes} {fm' : Nat → Option Int} {m : Option Nat} {w w' : World} (hk : k < 8) (h : PAt w x X kv) (hr : RunAt x (3 + k * 244) G S' fm' m w w') : PAt w' x (X.setSes k { S' with mks := m }) kv := by
  obtain ⟨cs, hb⟩ := h.block
  have hc := hr.chg.cell
  refine ⟨hr.chg.blk hb, (hc _ (by omega)).trans h.rules, (hc _ (by omega)).trans h.room, (hc _ (by omega)).trans h.opened, fun j hj => ?_, ⟨(hc _ (by omega)).trans h.store.latest, fun c hl => (hc _ (by omega)).trans (h.store.last c hl), fun c hl => (hc _ (by omega)).trans (h.store.kept c hl)⟩⟩
  show SesAt w' x (3 + j * 244) (upd X.ses k { S' with mks := m } j)
  by_cases e : j = k
  · subst e
    rw [upd_same]
    exact hr.ses
  · rw [upd_ne _ _ _ e]
    exact (h.ses j hj).keep (fun i h1 h2 => hc i (by omega))
/-- The engine behind a run. -/
theorem PAll.ran {x k : Nat} {X : PEng} {F : Mks} {w w' : World} {f : List Nat} {S' : PSes} {fm' : Nat → Option Int} {m : Option Nat} (h : PAll x X F w f) (hn : f.Nodup) (hk : k < 8) (hr : RunAt x (3 + k * 244) (X.ses k).mks.toList S' fm' m w w') :
    ATo (PAll x (X.setSes k { S' with mks := m }) (upd F k fm')) f w w' := by
  have hwi := PAll.within _ _ _ h
  obtain ⟨f0, f1, ⟨kv, hP, fh, hE, rfl⟩, ⟨f2, f3, ⟨h2, rfl⟩, h3, rfl⟩, rfl⟩ := h
  have hmk : ∀ g, (X.ses k).mks = some g → g ∈ mksL X := fun g hg => mksL_mem.mpr ⟨k, hk, hg⟩
  rw [List.nodup_append] at hn
  obtain ⟨n0, n1, d01⟩ := hn
  rw [List.nodup_append] at n1
  obtain ⟨n2, n3, d23⟩ := n1
  rw [List.nodup_cons] at n0
  have hfr : Fr (x :: (X.ses k).mks.toList) w w' := hr.chg.fr
  have hG : ∀ g, g ∈ (X.ses k).mks.toList ↔ (X.ses k).mks = some g := fun g => by
    cases (X.ses k).mks with
    | none => simp
    | some a => simp [eq_comm]
  have hother : ∀ j, j ≠ k → (X.setSes k { S' with mks := m }).ses j = X.ses j := fun j e => upd_ne _ _ _ e
  have hself : (X.setSes k { S' with mks := m }).ses k = { S' with mks := m } := upd_same _ _ _
  have hmnew : ∀ g, m = some g → (X.ses k).mks = some g ∨ w.heap.size ≤ g := fun g hg => by
    rcases hr.old g hg with h | h
    · exact .inl ((hG g).mp h)
    · exact .inr h
  have hn2 := mksL_nodup.mp n2
  have hlt : ∀ j, j < 8 → ∀ g, (X.ses j).mks = some g → g < w.heap.size := fun j hj g hg => by
    have := h2 j hj
    rw [hg] at this
    exact this.lt
  have hML : ∀ g, g ∈ mksL (X.setSes k { S' with mks := m }) → g ∈ mksL X ∨ w.heap.size ≤ g := fun g hg => by
    obtain ⟨j, hj, e⟩ := mksL_mem.mp hg
    by_cases ej : j = k
    · subst ej
      rw [hself] at e
      rcases hmnew g e with h | h
      · exact .inl (hmk g h)
      · exact .inr h
    · rw [hother j ej] at e
      exact .inl (mksL_mem.mpr ⟨j, hj, e⟩)
  refine ⟨(x :: fh) ++ (mksL (X.setSes k { S' with mks := m }) ++ f3), ⟨x :: fh, _, ⟨kv, hr.pat hk hP, fh, ?_, rfl⟩, ⟨_, f3, ⟨fun j hj => ?_, rfl⟩, ?_, rfl⟩, rfl⟩, ?_, ?_, ?_⟩
  · show EachA HistA ((List.range 60).map kv) ((List.range 60).map X.hist) w' fh
    refine EachA.framed HistA.framed _ _ hE hfr (fun g hg hs => ?_)
    rcases List.mem_cons.mp hs with e | e
    · exact n0.1 (e ▸ hg)
    · exact d01 g (by simp [hg]) g (List.mem_append_left _ (hmk g ((hG g).mp e))) rfl
  · by_cases ej : j = k
    · subst ej
      rw [hself, upd_same]
      exact hr.mar
    · rw [hother j ej, upd_ne _ _ _ ej]
      refine (h2 j hj).fr hfr (fun g hg hs => ?_)
      rcases List.mem_cons.mp hs with e | e
      · exact d01 x (by simp) g (List.mem_append_left _ (mksL_mem.mpr ⟨j, hj, hg⟩)) e.symm
      · have hgk := (hG g).mp e
        rcases Nat.lt_or_gt_of_ne ej with hl | hl
        · exact hn2 j k hl hk g hg hgk
        · exact hn2 k j hl hj g hgk hg
  · refine StillA.framed _ h3 hfr (fun g hg hs => ?_)
    rcases List.mem_cons.mp hs with e | e
    · exact d01 x (by simp) g (List.mem_append_right _ hg) e.symm
    · exact d23 g (hmk g ((hG g).mp e)) g hg rfl
  · rw [List.nodup_append]
    refine ⟨by rw [List.nodup_cons]; exact n0, ?_, ?_⟩
    · rw [List.nodup_append]
      refine ⟨mksL_nodup.mpr (fun i j hij hj g hi e => ?_), n3, fun a ha b hb e => ?_⟩
      · by_cases ei : i = k
        · subst ei
          have ej : j ≠ i := by omega
          rw [hself] at hi
          rw [hother j ej] at e
          rcases hmnew g hi with h | h
          · exact hn2 i j hij hj g h e
          · have := hlt j hj g e; omega
        · rw [hother i ei] at hi
          by_cases ej : j = k
          · subst ej
            rw [hself] at e
            rcases hmnew g e with h | h
            · exact hn2 i j hij hj g hi h
            · have := hlt i (by omega) g hi; omega
          · rw [hother j ej] at e
            exact hn2 i j hij hj g hi e
      · subst e
        rcases hML a ha with h | h
        · exact d23 a h a hb rfl
        · have := hwi a (List.mem_append_right _ (List.mem_append_right _ hb)); omega
    · intro a ha b hb e
      subst e
      rcases List.mem_append.mp hb with hb | hb
      · rcases hML a hb with h | h
        · exact d01 a ha a (List.mem_append_left _ h) rfl
        · have := hwi a (List.mem_append_left _ ha); omega
      · exact d01 a ha a (List.mem_append_right _ hb) rfl
  · intro y hy
    rcases List.mem_append.mp hy with hy | hy
    · exact .inl (List.mem_append_left _ hy)
    · rcases List.mem_append.mp hy with hy | hy
      · rcases hML y hy with h | h
        · exact .inl (List.mem_append_right _ (List.mem_append_left _ h))
        · exact .inr h
      · exact .inl (List.mem_append_right _ (List.mem_append_right _ hy))
  · refine hfr.mono (fun y hy => .inl ?_)
    rcases List.mem_cons.mp hy with e | e
    · subst e; simp
    · exact List.mem_append_right _ (List.mem_append_left _ (hmk y ((hG y).mp e)))

theorem erun_to (x : Nat) (X : PEng) (F : Mks) (f : List Nat) (i : Nat) (n c : Int) (w : World) (h : PEngE x X F w f) (hn : f.Nodup) (hg : Fit i X) (hi : i ≤ 100000000000000) (hR : RulesP X.src.2.1 X.src.2.2) :
    Calls Try.prog 19 #[.pointer (some ⟨x, 0, none⟩), .int .i64 n, .int .i64 c] w fun e w' => e = .returned (.tuple #[.int .i64 (prunE X F n c).1.1, .int .i64 (prunE X F n c).1.2.1, .int .i64 (prunE X F n c).1.2.2]) ∧ ATo (PEngE x (prunE X F n c).2.1 (prunE X F n c).2.2) f w w' := by
  have hquiet : ∀ w', w.grownBy w' none → ATo (PEngE x X F) f w w' := fun w' r => ⟨f, PEngE.framed _ _ _ h (fr_none r) (by simp), hn, fun _ hy => .inl hy, (fr_none r).mono (fun k hk => by cases hk)⟩
  have h0 := h
  obtain ⟨X0, hA, rfl⟩ := h0
  have hg0 := Fit.plain.mpr hg
  have hA' := hA
  obtain ⟨f0, f1, ⟨kv, hk⟩, ⟨f2, f3, ⟨h2, rfl⟩, h3, rfl⟩, rfl⟩ := hA'
  have e1 : findP X0.plain n = findP X0 n := rfl
  unfold prunE
  rw [e1]
  cases hf : findP X0 n with
  | none =>
    refine (prun_none x X0 kv n c w hk.1 hf).mono ?_
    rintro e w' ⟨rfl, r⟩
    exact ⟨rfl, hquiet w' r⟩
  | some k =>
    simp only []
    by_cases hc : 0 ≤ c ∧ c ≤ 99
    · rw [if_pos hc]
      have hk8 := (findP_spec hf).1
      have hx0 : x ∈ f0 := by obtain ⟨_, _, _, rfl⟩ := hk; simp
      have hn' := hn
      rw [List.nodup_append] at hn'
      obtain ⟨_, n1, d01⟩ := hn'
      rw [List.nodup_append] at n1
      obtain ⟨_, _, d23⟩ := n1
      have hgm : ∀ g, g ∈ (X0.ses k).mks.toList → g ∈ mksL X0 := fun g hg => mksL_mem.mpr ⟨k, hk8, by
        cases hm : (X0.ses k).mks with
        | none => rw [hm] at hg; cases hg
        | some a => rw [hm] at hg; simp at hg; rw [hg]⟩
      have hne : (X0.ses k).mks ≠ some x := fun e => d01 x hx0 x (List.mem_append_left _ (mksL_mem.mpr ⟨k, hk8, e⟩)) rfl
      have hsn := hg0.snap k hk8
      have hmd := hg0.made k hk8
      have hlt := hg0.latest
      have hcc : ((c.toNat : Nat) : Int) = c := Int.toNat_of_nonneg hc.1
      have := prun_some x X0 kv n k c.toNat (F k) X0.src.2.1 X0.src.2.2 X0.src.1.1 0 w hk.1 hk.rows (fun c hc => by have := hg0.len hc; omega) hf (h2 k hk8) hne (hg0.wok hk8) rfl (fun W hW => (StillA.framed _ h3 hW (fun g hg hs => by
        rcases List.mem_cons.mp hs with e | e
        · exact d01 x hx0 g (List.mem_append_right _ hg) e.symm
        · exact d23 g (hgm g e) g hg rfl)).now) hR.walk hR.acts hR.nine (by omega) hsn.1 (by omega)
      rw [hcc] at this
      refine this.mono ?_
      rintro e w' ⟨rfl, m, hr⟩
      have hT := PAll.ran hA hn hk8 hr
      have hp : runX X0.plain F k c.toNat = ((runX X0 F k c.toNat).1, (runX X0 F k c.toNat).2.1.bare, (runX X0 F k c.toNat).2.2) := runX_plain X0 F k c.toNat
      rw [hp]
      refine ⟨rfl, ?_⟩
      obtain ⟨f', a, n', s', r'⟩ := hT
      refine ⟨f', ⟨_, a, ?_⟩, n', s', r'⟩
      rw [plain_setSes]
      rfl
    · rw [if_neg hc]
      refine (prun_fuel x X0 kv n c k w hk.1 hf (by omega)).mono ?_
      rintro e w' ⟨rfl, r⟩
      exact ⟨rfl, hquiet w' r⟩

end Go.Proofs.Ythlhbjnkohinmaa
