/- The book that Serial keeps: writes, ends, commits. -/
import Derived.Test.YthlhbjnkohinmaaBk
namespace Go.Proofs.Ythlhbjnkohinmaa
open Go.RowKit

def Cli.put (C : Cli) (c : Nat) (b : Int) : Cli := { C with wrote := upd C.wrote c true, vals := upd C.vals c b }
def Bk.setC (B : Bk) (i : Nat) (C : Cli) : Bk := { B with cls := B.cls.set i C }

theorem BSim.setC {X : PEng} {B : Bk} {L : List (Nat × Nat)} (h : BSim X B L) {k i : Nat} (hq : (k, i) ∈ L) (P : PSes) (C : Cli) (hs : CliSim P C) (hn : C.num = (i : Int) + 1) (hb : ∀ c, c < 60 → ByteOk (C.vals c)) : BSim (X.setSes k P) (B.setC i C) L := by
  have hne : ∀ q ∈ L, q ≠ (k, i) → q.1 ≠ k ∧ q.2 ≠ i := fun q hq' hne => ⟨fun e => hne (inj_of_nodup h.places hq' hq e), fun e => hne (inj_of_nodup h.idx hq' hq e)⟩
  have hlen : (B.setC i C).cls.length = B.cls.length := by simp [Bk.setC]
  refine { places := h.places, lt := h.lt, idx := h.idx, cli := ?_, free := ?_, dead := ?_, opened := by rw [hlen]; exact h.opened, latest := h.latest, pos := h.pos, last := h.last, hist := h.hist, histLe := h.histLe, histN := h.histN, room := h.room, byte := h.byte, cbyte := ?_ }
  · intro q hq'
    obtain ⟨hi, hnn, hss⟩ := h.cli q hq'
    by_cases e : q = (k, i)
    · subst e
      refine ⟨by rw [hlen]; exact hi, ?_, ?_⟩
      · simp [Bk.setC, hn]
      · show CliSim (upd X.ses k P k) _
        rw [upd_same]
        simpa [Bk.setC] using hs
    · obtain ⟨h1, h2⟩ := hne q hq' e
      have hget : (B.setC i C).cls[q.2]'(by rw [hlen]; exact hi) = B.cls[q.2] := by simp [Bk.setC, List.getElem_set_ne (Ne.symm h2)]
      refine ⟨by rw [hlen]; exact hi, by rw [hget]; exact hnn, ?_⟩
      rw [hget]
      show CliSim (upd X.ses k P q.1) _
      rw [upd_ne _ _ _ h1]
      exact hss
  · intro j hj hjL
    show (upd X.ses k P j).num = 0
    rw [upd_ne _ _ _ (fun e => hjL _ hq e.symm)]
    exact h.free j hj hjL
  · intro j hj hjL
    have : i ≠ j := fun e => hjL _ hq e
    have hj2 : j < B.cls.length := by rw [hlen] at hj; exact hj
    have hget : (B.setC i C).cls[j] = B.cls[j] := by simp [Bk.setC, List.getElem_set_ne this]
    rw [hget]
    exact h.dead j hj2 hjL
  · intro C' hC' c hc
    rcases List.mem_or_eq_of_mem_set hC' with hC' | rfl
    · exact h.cbyte C' hC' c hc
    · exact hb c hc
theorem CliSim.put {P : PSes} {C : Cli} (h : CliSim P C) (c : Nat) (b : Int) : CliSim (P.put c (toV b)) (C.put c b) := by
  refine ⟨h.num, h.snap, fun d hd => ?_⟩
  show upd P.wr c (some (toV b)) d = cliW (C.put c b) d
  by_cases e : d = c
  · subst e
    simp [cliW, Cli.put, upd]
  · rw [upd_ne _ _ _ e, h.wr d hd]
    simp [cliW, Cli.put, upd, e]

theorem BSim.drop {X : PEng} {B : Bk} {L : List (Nat × Nat)} (h : BSim X B L) {k i : Nat} (hq : (k, i) ∈ L) (C : Cli) (hn : C.num = 0) (hb : ∀ c, c < 60 → ByteOk (C.vals c)) : BSim (X.setSes k .zero) (B.setC i C) (L.filter fun q => q.2 != i) := by
  have hin : ∀ q ∈ L.filter (fun q => q.2 != i), q ∈ L ∧ q.1 ≠ k ∧ q.2 ≠ i := by
    intro q hq'
    obtain ⟨h1, h2⟩ := List.mem_filter.mp hq'
    have h3 : q.2 ≠ i := by simpa using h2
    exact ⟨h1, fun e => h3 (congrArg (·.2) (inj_of_nodup h.places h1 hq e)), h3⟩
  have hlen : (B.setC i C).cls.length = B.cls.length := by simp [Bk.setC]
  refine { places := h.places.sublist (List.filter_sublist.map _), lt := fun q hq' => h.lt q (hin q hq').1, idx := h.idx.sublist (List.filter_sublist.map _), cli := ?_, free := ?_, dead := ?_, opened := by rw [hlen]; exact h.opened, latest := h.latest, pos := h.pos, last := h.last, hist := h.hist, histLe := h.histLe, histN := h.histN, room := h.room, byte := h.byte, cbyte := ?_ }
  · intro q hq'
    obtain ⟨h1, h2, h3⟩ := hin q hq'
    obtain ⟨hi, hnn, hss⟩ := h.cli q h1
    have hget : (B.setC i C).cls[q.2]'(by rw [hlen]; exact hi) = B.cls[q.2] := by simp [Bk.setC, List.getElem_set_ne (Ne.symm h3)]
    refine ⟨by rw [hlen]; exact hi, by rw [hget]; exact hnn, ?_⟩
    rw [hget]
    show CliSim (upd X.ses k _ q.1) _
    rw [upd_ne _ _ _ h2]
    exact hss
  · intro j hj hjL
    show (upd X.ses k _ j).num = 0
    by_cases e : j = k
    · subst e; rw [upd_same]; rfl
    · rw [upd_ne _ _ _ e]
      apply h.free j hj
      rintro q hq' rfl
      refine hjL q (List.mem_filter.mpr ⟨hq', ?_⟩) rfl
      simp only [bne_iff_ne, ne_eq]
      intro hqi
      exact e (congrArg (·.1) (inj_of_nodup h.idx hq' hq hqi))
  · intro j hj hjL
    have hj2 : j < B.cls.length := by rw [hlen] at hj; exact hj
    by_cases e : i = j
    · subst e
      have hget : (B.setC i C).cls[i] = C := by simp [Bk.setC]
      rw [hget]; exact hn
    · have hget : (B.setC i C).cls[j] = B.cls[j] := by simp [Bk.setC, List.getElem_set_ne e]
      rw [hget]
      apply h.dead j hj2
      intro q hq' hqj
      refine hjL q (List.mem_filter.mpr ⟨hq', ?_⟩) hqj
      simp only [bne_iff_ne, ne_eq]
      omega
  · intro C' hC' c hc
    rcases List.mem_or_eq_of_mem_set hC' with hC' | rfl
    · exact h.cbyte C' hC' c hc
    · exact hb c hc

def Bk.commit (B : Bk) (C : Cli) : Bk := { B with
  commits := B.commits + 1
  latest := fun c => if C.wrote c then B.commits + 1 else B.latest c
  vals := fun c => if C.wrote c then C.vals c else B.vals c }
theorem BSim.commit {X : PEng} {B : Bk} {L : List (Nat × Nat)} (h : BSim X B L) {P : PSes} {C : Cli} (hs : ∀ c, c < 60 → P.wr c = cliW C c) (hb : ∀ c, c < 60 → ByteOk (C.vals c)) : BSim (X.commit P) (B.commit C) L := by
  have hp := h.pos
  have hw : ∀ c, c < 60 → (P.wr c).isSome = C.wrote c := fun c hc => by
    rw [hs c hc]
    unfold cliW
    cases C.wrote c <;> rfl
  have hN : ∀ c, c < 60 → (((X.commit P).hist c).length : Int) ≤ (B.commit C).commits := fun c hc => by
    have := h.histN c hc
    show ((match P.wr c with | some v => X.hist c ++ [(X.latest + 1, v)] | none => X.hist c).length : Int) ≤ B.commits + 1
    cases P.wr c with
    | none => simp only; omega
    | some v => simp only [List.length_append, List.length_cons, List.length_nil]; omega
  refine { places := h.places, lt := h.lt, idx := h.idx, cli := h.cli, free := h.free, dead := h.dead, opened := h.opened, latest := ?_, pos := ?_, last := ?_, hist := ?_, histLe := ?_, histN := hN, room := h.room, byte := ?_, cbyte := h.cbyte }
  · show X.latest + 1 = B.commits + 1
    rw [h.latest]
  · show 0 ≤ B.commits + 1
    omega
  · intro c hc
    show (if (P.wr c).isSome = true then X.latest + 1 else X.last c) = if C.wrote c = true then B.commits + 1 else B.latest c
    rw [hw c hc, h.latest, h.last c hc]
  · intro c hc
    show histAt (match P.wr c with | some v => X.hist c ++ [(X.latest + 1, v)] | none => X.hist c) (B.commits + 1) = toV (if C.wrote c = true then C.vals c else B.vals c)
    rw [hs c hc]
    unfold cliW
    cases hcw : C.wrote c with
    | true =>
      simp only [if_true]
      rw [histAt_snoc, h.latest, if_pos (Int.le_refl _)]
    | false =>
      simp only [Bool.false_eq_true, if_false]
      rw [← h.hist c hc]
      unfold histAt
      have hle := h.histLe c hc
      have hfind : ∀ l : List (Int × Option Int), (∀ p ∈ l, p.1 ≤ B.commits) → l.find? (fun p => decide (p.1 ≤ B.commits + 1)) = l.find? (fun p => decide (p.1 ≤ B.commits)) := by
        intro l hl
        cases l with
        | nil => rfl
        | cons a r =>
          have := hl a (by simp)
          rw [List.find?_cons, List.find?_cons, decide_eq_true (by omega), decide_eq_true (by omega)]
      rw [hfind _ (fun p hp => hle p (by simpa using hp))]
  · intro c hc p hp
    show p.1 ≤ B.commits + 1
    have hp' : p ∈ (match P.wr c with | some v => X.hist c ++ [(X.latest + 1, v)] | none => X.hist c) := hp
    cases hw : P.wr c with
    | none =>
      rw [hw] at hp'
      have := h.histLe c hc p hp'
      omega
    | some v =>
      rw [hw] at hp'
      rcases List.mem_append.mp hp' with hp' | hp'
      · have := h.histLe c hc p hp'; omega
      · simp at hp'
        rw [hp', h.latest]
        exact Int.le_refl _
  · intro c hc
    show ByteOk (if C.wrote c = true then C.vals c else B.vals c)
    split
    · exact hb c hc
    · exact h.byte c hc

/-- In conflict: by the book. -/
def bclash (B : Bk) (C : Cli) : Bool := (List.range 60).any fun c => C.wrote c && decide (B.latest c > C.begun)
def bsome (C : Cli) : Bool := (List.range 60).any fun c => C.wrote c
theorem any_same {f g : Nat → Bool} (h : ∀ c, c < 60 → f c = g c) : (List.range 60).any f = (List.range 60).any g := by
  rw [Bool.eq_iff_iff, List.any_eq_true, List.any_eq_true]
  constructor
  · rintro ⟨c, hc, hf⟩
    exact ⟨c, hc, by rw [← h c (by simpa using hc)]; exact hf⟩
  · rintro ⟨c, hc, hf⟩
    exact ⟨c, hc, by rw [h c (by simpa using hc)]; exact hf⟩
theorem CliSim.isSome {P : PSes} {C : Cli} (h : CliSim P C) {c : Nat} (hc : c < 60) : (P.wr c).isSome = C.wrote c := by
  rw [h.wr c hc]
  unfold cliW
  cases C.wrote c <;> rfl
theorem BSim.clash {X : PEng} {B : Bk} {L : List (Nat × Nat)} (h : BSim X B L) {P : PSes} {C : Cli} (hs : CliSim P C) : Go.Proofs.Ythlhbjnkohinmaa.clash X P = bclash B C := by
  unfold Go.Proofs.Ythlhbjnkohinmaa.clash bclash
  exact any_same (fun c hc => by rw [hs.isSome hc, h.last c hc, hs.snap])
theorem CliSim.hasW {P : PSes} {C : Cli} (hs : CliSim P C) : Go.Proofs.Ythlhbjnkohinmaa.hasW P = bsome C := by
  unfold Go.Proofs.Ythlhbjnkohinmaa.hasW bsome
  exact any_same (fun c hc => hs.isSome hc)

/-- What is shown in the end. -/
def shownT (v : Nat → Int) (n : Nat) : ByteArray := joined ((List.range n).filterMap fun c => if v c = 0 then none else some (strOfNums [97 + (c : Int) / 10, 48 + (c : Int) % 10, v c]))
theorem BSim.view {X : PEng} {B : Bk} {L : List (Nat × Nat)} (h : BSim X B L) {k : Nat} (hk : (X.ses k).wr = fun _ => none) (hsn : (X.ses k).snap = B.commits) : viewP X k = shownT B.vals 60 := by
  unfold viewP shownT
  congr 1
  apply filterMap_same
  intro c hc
  have hc60 : c < 60 := by simpa using hc
  have e : seenP X k c = toV (B.vals c) := by
    unfold seenP
    rw [hk]
    show histAt (X.hist c) (X.ses k).snap = _
    rw [hsn]
    exact h.hist c hc60
  rw [e]
  unfold toV
  split
  · rfl
  · have e2 : 48 + (B.vals c - 48) = B.vals c := by omega
    simp [factP, e2]
theorem BSim.digs {X : PEng} {B : Bk} {L : List (Nat × Nat)} (h : BSim X B L) {k : Nat} (hk : (X.ses k).wr = fun _ => none) (hsn : (X.ses k).snap = B.commits) : ∀ c v, c < 60 → seenP X k c = some v → 0 ≤ v ∧ v ≤ 9 := by
  intro c v hc hv
  unfold seenP at hv
  rw [hk] at hv
  have hv' : histAt (X.hist c) (X.ses k).snap = some v := hv
  rw [hsn, h.hist c hc] at hv'
  unfold toV at hv'
  split at hv'
  · cases hv'
  · cases hv'
    rcases h.byte c hc with hb | hb
    · contradiction
    · omega

end Go.Proofs.Ythlhbjnkohinmaa
