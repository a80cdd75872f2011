import Derived.Test.YthlhbjnkohinmaaPart16
import Derived.Test.YthlhbjnkohinmaaPart18
/- An act of any kind, as plain data and in memory. -/
namespace Go.Proofs.Ythlhbjnkohinmaa
open Go.RowKit

/-- An act: its answer, and the engine behind it. -/
def pact (X : PEng) (F : Mks) (kd b c : Int) (s : ByteArray) : (ByteArray × Int × Int × Int) × PEng × Mks :=
  if kd = 1 then ((ByteArray.empty, (popenF X).1.1, 0, (popenF X).1.2), (popenF X).2, nextF X (popenF X).2 F)
  else if kd = 2 then ((ByteArray.empty, 0, 0, (pputF X b s).1), (pputF X b s).2, nextF X (pputF X b s).2 F)
  else if kd = 3 then ((ByteArray.empty, 0, 0, (pclearF X b s).1), (pclearF X b s).2, nextF X (pclearF X b s).2 F)
  else if kd = 4 then (((pviewF X b).1, 0, 0, (pviewF X b).2), X, F)
  else if kd = 5 then ((ByteArray.empty, 0, 0, (pabortF X b).1), (pabortF X b).2, nextF X (pabortF X b).2 F)
  else if kd = 6 then ((ByteArray.empty, (pcommitG X b).1.1, 0, (pcommitG X b).1.2), (pcommitG X b).2, nextF X (pcommitG X b).2 F)
  else if kd = 7 then (((pmatE X F b).1, 0, 0, (pmatE X F b).2), X, F)
  else if kd = 8 then ((ByteArray.empty, (prunE X F b c).1.1, (prunE X F b c).1.2.1, (prunE X F b c).1.2.2), (prunE X F b c).2.1, (prunE X F b c).2.2)
  else if kd = 9 then ((ByteArray.empty, ((keptN X 60 : Nat) : Int), 0, 0), X, F)
  else if kd = 10 then ((ByteArray.empty, (psweepF X).1, 0, 0), (psweepF X).2, nextF X (psweepF X).2 F)
  else ((ByteArray.empty, 0, 0, 0), X, F)
theorem pact_open (X : PEng) (F : Mks) (b c : Int) (s : ByteArray) : pact X F 1 b c s = ((ByteArray.empty, (popenF X).1.1, 0, (popenF X).1.2), (popenF X).2, nextF X (popenF X).2 F) := rfl
theorem pact_put (X : PEng) (F : Mks) (b c : Int) (s : ByteArray) : pact X F 2 b c s = ((ByteArray.empty, 0, 0, (pputF X b s).1), (pputF X b s).2, nextF X (pputF X b s).2 F) := rfl
theorem pact_clear (X : PEng) (F : Mks) (b c : Int) (s : ByteArray) : pact X F 3 b c s = ((ByteArray.empty, 0, 0, (pclearF X b s).1), (pclearF X b s).2, nextF X (pclearF X b s).2 F) := rfl
theorem pact_view (X : PEng) (F : Mks) (b c : Int) (s : ByteArray) : pact X F 4 b c s = (((pviewF X b).1, 0, 0, (pviewF X b).2), X, F) := rfl
theorem pact_abort (X : PEng) (F : Mks) (b c : Int) (s : ByteArray) : pact X F 5 b c s = ((ByteArray.empty, 0, 0, (pabortF X b).1), (pabortF X b).2, nextF X (pabortF X b).2 F) := rfl
theorem pact_commit (X : PEng) (F : Mks) (b c : Int) (s : ByteArray) : pact X F 6 b c s = ((ByteArray.empty, (pcommitG X b).1.1, 0, (pcommitG X b).1.2), (pcommitG X b).2, nextF X (pcommitG X b).2 F) := rfl
theorem pact_matches (X : PEng) (F : Mks) (b c : Int) (s : ByteArray) : pact X F 7 b c s = (((pmatE X F b).1, 0, 0, (pmatE X F b).2), X, F) := rfl
theorem pact_run (X : PEng) (F : Mks) (b c : Int) (s : ByteArray) : pact X F 8 b c s = ((ByteArray.empty, (prunE X F b c).1.1, (prunE X F b c).1.2.1, (prunE X F b c).1.2.2), (prunE X F b c).2.1, (prunE X F b c).2.2) := rfl
theorem pact_kept (X : PEng) (F : Mks) (b c : Int) (s : ByteArray) : pact X F 9 b c s = ((ByteArray.empty, ((keptN X 60 : Nat) : Int), 0, 0), X, F) := rfl
theorem pact_sweep (X : PEng) (F : Mks) (b c : Int) (s : ByteArray) : pact X F 10 b c s = ((ByteArray.empty, (psweepF X).1, 0, 0), (psweepF X).2, nextF X (psweepF X).2 F) := rfl
theorem pact_none (X : PEng) (F : Mks) (kd b c : Int) (s : ByteArray) (h : kd < 1 ∨ 10 < kd) : pact X F kd b c s = ((ByteArray.empty, 0, 0, 0), X, F) := by
  unfold pact
  rw [if_neg (by omega), if_neg (by omega), if_neg (by omega), if_neg (by omega), if_neg (by omega), if_neg (by omega), if_neg (by omega), if_neg (by omega), if_neg (by omega), if_neg (by omega)]
theorem kind_cases (kd : Int) : (kd < 1 ∨ 10 < kd) ∨ kd = 1 ∨ kd = 2 ∨ kd = 3 ∨ kd = 4 ∨ kd = 5 ∨ kd = 6 ∨ kd = 7 ∨ kd = 8 ∨ kd = 9 ∨ kd = 10 := by omega
theorem Fit.act {i : Nat} {X : PEng} (h : Fit i X) (F : Mks) (kd b c : Int) (s : ByteArray) (hR : RulesP X.src.2.1 X.src.2.2) : Fit (i + 1) (pact X F kd b c s).2.1 := by
  rcases kind_cases kd with h0 | rfl | rfl | rfl | rfl | rfl | rfl | rfl | rfl | rfl | rfl
  · rw [pact_none _ _ _ _ _ _ h0]; exact h.mono (Nat.le_succ i)
  · exact h.open
  · exact h.put b s
  · exact h.clear b s
  · exact h.mono (Nat.le_succ i)
  · exact h.abort b
  · exact h.commit b
  · exact h.mono (Nat.le_succ i)
  · exact h.run F b c hR
  · exact h.mono (Nat.le_succ i)
  · exact h.sweep
theorem pact_src {i : Nat} {X : PEng} (h : Fit i X) (F : Mks) (kd b c : Int) (s : ByteArray) : (pact X F kd b c s).2.1.src = X.src := by
  rcases kind_cases kd with h0 | rfl | rfl | rfl | rfl | rfl | rfl | rfl | rfl | rfl | rfl
  · rw [pact_none _ _ _ _ _ _ h0]
  · exact (popen_plain X h.opened.1).2.2.1
  · exact (pput_plain X b s).2.2.1
  · exact (pclear_plain X b s).2.2.1
  · rfl
  · exact (pabort_plain X b).2.2.1
  · exact (pcommit_plain X b).2.2.1
  · rfl
  · rw [pact_run]
    unfold prunE
    cases findP X b with
    | none => rfl
    | some k =>
      simp only []
      split <;> rfl
  · rfl
  · rfl

set_option maxHeartbeats 1000000 in
theorem eact (x : Nat) (X : PEng) (F : Mks) (f : List Nat) (i : Nat) (kd b c : Int) (s : ByteArray) (w : World) (h : PEngE x X F w f) (hn : f.Nodup) (hg : Fit i X) (hi : i ≤ 100000000000000) (hR : RulesP X.src.2.1 X.src.2.2) (hs63 : s.size < 9223372036854775808) :
    Calls Try.prog 16 #[.pointer (some ⟨x, 0, none⟩), actV kd b c s] w fun e w' => e = .returned (ansV (pact X F kd b c s).1.1 (pact X F kd b c s).1.2.1 (pact X F kd b c s).1.2.2.1 (pact X F kd b c s).1.2.2.2) ∧ ATo (PEngE x (pact X F kd b c s).2.1 (pact X F kd b c s).2.2) f w w' := by
  have hwi := PEngE.within _ _ _ h
  have hW : ∀ W, Fr [] w W → PEngE x X F W f := fun W r => PEngE.framed _ _ _ h r (by simp)
  rcases kind_cases kd with h0 | rfl | rfl | rfl | rfl | rfl | rfl | rfl | rfl | rfl | rfl
  · rw [pact_none _ _ _ _ _ _ h0]
    exact gact_none x (PEngE x X F) (PEngE.framed _ _ _) f kd b c s w h hn h0
  · rw [pact_open]
    exact gact_open x _ (PEngE.framed _ _ _) f b c s w hwi _ _ (fun W r => eopen_to x X F f i W (hW W r) hn hg hi)
  · rw [pact_put]
    exact gact_put x _ (PEngE.framed _ _ _) f b c s w hwi _ (fun W r => eput_to x X F f i b s W (hW W r) hn hg hi hs63)
  · rw [pact_clear]
    exact gact_clear x _ (PEngE.framed _ _ _) f b c s w hwi _ (fun W r => eclear_to x X F f i b s W (hW W r) hn hg hi hs63)
  · rw [pact_view]
    exact gact_view x _ (PEngE.framed _ _ _) f b c s w hwi _ _ (fun W r => eview_to x X F f i b W (hW W r) hn hg hi)
  · rw [pact_abort]
    exact gact_abort x _ (PEngE.framed _ _ _) f b c s w hwi _ (fun W r => eabort_to x X F f b W (hW W r) hn)
  · rw [pact_commit]
    exact gact_commit x _ (PEngE.framed _ _ _) f b c s w hwi _ _ (fun W r => ecommit_to x X F f i b W (hW W r) hn hg hi)
  · rw [pact_matches]
    exact gact_matches x _ (PEngE.framed _ _ _) f b c s w hwi _ _ (fun W r => ematches_to x X F f i b W (hW W r) hn hg hi hR)
  · rw [pact_run]
    exact gact_run x _ (PEngE.framed _ _ _) f b c s w hwi _ _ _ (fun W r => erun_to x X F f i b c W (hW W r) hn hg hi hR)
  · rw [pact_kept]
    exact gact_kept x _ (PEngE.framed _ _ _) f b c s w hwi _ (fun W r => ekept_to x X F f i W (hW W r) hn hg hi)
  · rw [pact_sweep]
    exact gact_sweep x _ (PEngE.framed _ _ _) f b c s w hwi _ (fun W r => esweep_to x X F f i W (hW W r) hn hg hi)

end Go.Proofs.Ythlhbjnkohinmaa

/- What a session sees and matches is its own: plain. -/
namespace Go.Proofs.Ythlhbjnkohinmaa
open Go.RowKit

theorem old_le_latest (X : PEng) : ∀ m, oldN X m ≤ X.latest
  | 0 => Int.le_refl _
  | m + 1 => by
    have := old_le_latest X m
    unfold oldN
    split
    · rename_i h; omega
    · exact this
theorem old_le {X : PEng} {k : Nat} (hn : 0 < (X.ses k).num) : ∀ m, k < m → oldN X m ≤ (X.ses k).snap
  | 0, h => by omega
  | m + 1, h => by
    have h0 : oldN X (m + 1) = if 0 < (X.ses m).num ∧ (X.ses m).snap < oldN X m then (X.ses m).snap else oldN X m := rfl
    by_cases e : k = m
    · subst e
      rw [h0]
      split
      · exact Int.le_refl _
      · rename_i hc
        omega
    · have ih := old_le hn m (by omega)
      rw [h0]
      split
      · rename_i hc; omega
      · exact ih
/-- The session at place k sees and remembers in the second what it does in the first. -/
structure Pict (k : Nat) (X : PEng) (F : Mks) (X' : PEng) (F' : Mks) : Prop where
  ses : X'.ses k = X.ses k
  mrk : F' k = F k
  his : ∀ c, SeenEq (histV (X'.hist c) (X.ses k).snap) (histV (X.hist c) (X.ses k).snap)
theorem Pict.refl (k : Nat) (X : PEng) (F : Mks) : Pict k X F X F := ⟨rfl, rfl, fun _ => .refl _⟩
theorem Pict.trans {k : Nat} {X X' X'' : PEng} {F F' F'' : Mks} (h : Pict k X F X' F') (g : Pict k X' F' X'' F'') : Pict k X F X'' F'' :=
  ⟨g.ses.trans h.ses, g.mrk.trans h.mrk, fun c => by
    have := g.his c
    rw [h.ses] at this
    exact this.trans (h.his c)⟩
theorem Pict.next {k : Nat} {X X' : PEng} {F : Mks} (hs : X'.ses k = X.ses k) (hh : ∀ c, SeenEq (histV (X'.hist c) (X.ses k).snap) (histV (X.hist c) (X.ses k).snap)) : Pict k X F X' (nextF X X' F) :=
  ⟨hs, by unfold nextF; rw [hs, if_pos rfl], hh⟩
theorem Pict.other {k j : Nat} {X X' : PEng} {F : Mks} {S : PSes} (hj : k ≠ j) (hs : X'.ses = upd X.ses j S) (hh : X'.hist = X.hist) : Pict k X F X' (nextF X X' F) :=
  .next (by rw [hs, upd_ne _ _ _ hj]) (fun c => by rw [hh]; exact .refl _)
theorem Pict.idle {k : Nat} {X : PEng} {F : Mks} : Pict k X F X (nextF X X F) := .next rfl (fun _ => .refl _)
theorem swept_pict {i : Nat} {X : PEng} (h : Fit i X) {k : Nat} (hk : k < 8) (hn : 0 < (X.ses k).num) (c : Nat) : SeenEq (histV ((X.swept (oldN X 8)).hist c) (X.ses k).snap) (histV (X.hist c) (X.ses k).snap) :=
  swept_seen (h.inc c) (old_le hn 8 hk)
theorem room_pict {i : Nat} {X : PEng} (h : Fit i X) {k : Nat} (hk : k < 8) (hn : 0 < (X.ses k).num) (m : Nat) (c : Nat) : SeenEq (histV ((roomF X m).2.hist c) (X.ses k).snap) (histV (X.hist c) (X.ses k).snap) := by
  unfold roomF
  split
  · exact .refl _
  · exact swept_pict h hk hn c
theorem pict_act {i : Nat} {X : PEng} (hg : Fit i X) (F : Mks) {k : Nat} (hk : k < 8) {n : Int} (hn : (X.ses k).num = n) (h1 : 1 ≤ n) (kd b c : Int) (s : ByteArray) (hb : b ≠ n) : Pict k X F (pact X F kd b c s).2.1 (pact X F kd b c s).2.2 := by
  have hne : ∀ j, findP X b = some j → k ≠ j := fun j hf e => by
    obtain ⟨_, h2, _⟩ := findP_spec hf
    subst e
    exact hb (by rw [← h2, hn])
  rcases kind_cases kd with h0 | rfl | rfl | rfl | rfl | rfl | rfl | rfl | rfl | rfl | rfl
  · rw [pact_none _ _ _ _ _ _ h0]; exact .refl _ _ _
  · rw [pact_open]
    unfold popenF
    cases hf : numberedP X 0 with
    | none => exact .idle
    | some j =>
      obtain ⟨_, h2⟩ := numberedP_some hf
      exact .other (j := j) (fun e => by subst e; omega) rfl rfl
  · rw [pact_put]
    unfold pputF
    cases hf : findP X b with
    | none => exact .idle
    | some j =>
      cases factB s with
      | false => exact .idle
      | true => exact .other (hne j hf) rfl rfl
  · rw [pact_clear]
    unfold pclearF
    cases hf : findP X b with
    | none => exact .idle
    | some j =>
      cases cellB s with
      | false => exact .idle
      | true => exact .other (hne j hf) rfl rfl
  · exact .refl _ _ _
  · rw [pact_abort]
    unfold pabortF
    cases hf : findP X b with
    | none => exact .idle
    | some j => exact .other (hne j hf) rfl rfl
  · rw [pact_commit]
    unfold pcommitG
    cases hf : findP X b with
    | none => exact .idle
    | some j =>
      simp only []
      cases hasW (X.ses j) with
      | false => exact .other (hne j hf) rfl rfl
      | true =>
        cases clash X (X.ses j) with
        | true => exact .other (hne j hf) rfl rfl
        | false =>
          obtain ⟨_, _, _, r4⟩ := room_plain X (writN (X.ses j) 60)
          have hr := room_pict hg hk (by omega) (writN (X.ses j) 60)
          cases (roomF X (writN (X.ses j) 60)).1 with
          | false => exact .next (by show (roomF X (writN (X.ses j) 60)).2.ses k = _; rw [r4]) hr
          | true =>
            refine .next ?_ (fun c => ?_)
            · show upd (roomF X (writN (X.ses j) 60)).2.ses j .zero k = _
              rw [r4, upd_ne _ _ _ (hne j hf)]
            · have hsn := hg.snap k hk
              have hl : (roomF X (writN (X.ses j) 60)).2.latest = X.latest := by
                unfold roomF
                split <;> rfl
              show SeenEq (histV (match (X.ses j).wr c with | some v => (roomF X (writN (X.ses j) 60)).2.hist c ++ [((roomF X (writN (X.ses j) 60)).2.latest + 1, v)] | none => (roomF X (writN (X.ses j) 60)).2.hist c) (X.ses k).snap) _
              cases (X.ses j).wr c with
              | none => exact hr c
              | some v =>
                simp only []
                rw [histV_snoc, if_neg (by rw [hl]; show ¬ X.latest + 1 ≤ _; omega)]
                exact hr c
  · exact .refl _ _ _
  · rw [pact_run]
    unfold prunE
    cases hf : findP X b with
    | none => exact .refl _ _ _
    | some j =>
      simp only []
      split
      · refine ⟨?_, ?_, fun _ => .refl _⟩
        · show upd X.ses j _ k = _
          rw [upd_ne _ _ _ (hne j hf)]
        · show upd F j _ k = _
          rw [upd_ne _ _ _ (hne j hf)]
      · exact .refl _ _ _
  · exact .refl _ _ _
  · rw [pact_sweep]
    exact .next rfl (fun c => swept_pict hg hk (by omega) c)

theorem Fit.finds {i : Nat} {X : PEng} (h : Fit i X) {k : Nat} (hk : k < 8) {n : Int} (hn : (X.ses k).num = n) (h1 : 1 ≤ n) : findP X n = some k := by
  unfold findP
  rw [if_neg (by omega)]
  cases hf : numberedP X n with
  | none => exact absurd hn (numberedP_none hf k hk)
  | some j =>
    obtain ⟨hj, h2⟩ := numberedP_some hf
    rcases h.uniq j k hj hk (by rw [h2, hn]) with h3 | h3
    · omega
    · rw [h3]
theorem Pict.seen {k : Nat} {X X' : PEng} {F F' : Mks} (h : Pict k X F X' F') (c : Nat) : seenP X' k c = seenP X k c := by
  unfold seenP
  rw [h.ses]
  cases (X.ses k).wr c with
  | some v => rfl
  | none =>
    simp only []
    rw [← histV_two, ← histV_two]
    exact (h.his c).1
theorem Pict.view {k : Nat} {X X' : PEng} {F F' : Mks} (h : Pict k X F X' F') {n : Int} (hf : findP X n = some k) (hf' : findP X' n = some k) : pviewF X' n = pviewF X n := by
  unfold pviewF
  rw [hf, hf']
  simp only []
  unfold viewP
  congr 2
  apply filterMap_same
  intro c _
  rw [h.seen c]
theorem Pict.saw {k : Nat} {X X' : PEng} {F F' : Mks} (h : Pict k X F X' F') : sawX X' k = sawX X k := by
  unfold sawX sawN
  apply filterMap_same
  intro c _
  unfold seenT
  rw [h.ses]
  cases (X.ses k).wr c with
  | some v => rfl
  | none =>
    simp only []
    obtain ⟨h1, h2⟩ := h.his c
    cases hv : (histV (X'.hist c) (X.ses k).snap).2 with
    | none =>
      rw [hv] at h1
      rw [← h1]
      rfl
    | some v =>
      have := h2 (by rw [hv]; rfl)
      rw [← this, hv]
theorem Pict.mat {k : Nat} {X X' : PEng} {F F' : Mks} (h : Pict k X F X' F') (hsrc : X'.src = X.src) {n : Int} (hf : findP X n = some k) (hf' : findP X' n = some k) : pmatE X' F' n = pmatE X F n := by
  unfold pmatE
  rw [hf, hf']
  simp only []
  rw [hsrc, h.saw, h.mrk]

/-- A session's own writes and runs leave it open. -/
theorem mine_num {X : PEng} (F : Mks) {k : Nat} (kd b c : Int) (s : ByteArray) (hR : RulesP X.src.2.1 X.src.2.2) {i : Nat} (hg : Fit i X) (hkd : kd = 2 ∨ kd = 3 ∨ kd = 8) : ((pact X F kd b c s).2.1.ses k).num = (X.ses k).num := by
  have hupd : ∀ j (S : PSes), S.num = (X.ses j).num → (upd X.ses j S k).num = (X.ses k).num := fun j S e => by
    unfold upd
    split
    · rename_i h; rw [e, h]
    · rfl
  rcases hkd with rfl | rfl | rfl
  · rw [pact_put]
    unfold pputF
    cases hf : findP X b with
    | none => rfl
    | some j =>
      cases factB s with
      | false => rfl
      | true => exact hupd j _ rfl
  · rw [pact_clear]
    unfold pclearF
    cases hf : findP X b with
    | none => rfl
    | some j =>
      cases cellB s with
      | false => rfl
      | true => exact hupd j _ rfl
  · rw [pact_run]
    unfold prunE
    cases hf : findP X b with
    | none => rfl
    | some j =>
      simp only []
      split
      · exact hupd j _ (runS_ok hR _ _ _ (hg.wok (findP_spec hf).1)).num
      · rfl

end Go.Proofs.Ythlhbjnkohinmaa
