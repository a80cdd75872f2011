import Derived.Test.YthlhbjnkohinmabPart19
/- The book that Serial keeps: writes, ends, commits. -/
namespace Go.Proofs.Ythlhbjnkohinmab
open Go.RowKit

def Cli.put (C : Cli) (c : Nat) (b : Int) : Cli := { C with wrote := upd C.wrote c true, vals := upd C.vals c b }
def Bk.setC (B : Bk) (i : Nat) (C : Cli) : Bk := { B with cls := B.cls.set i C }

theorem BSim.setC {X : PEng} {B : Bk} {L : List (Nat × Nat)} (h : BSim X B L) {k i : Nat} (hq : (k, i) ∈ L) (P : PSes) (C : Cli) (hs : CliSim P C) (hn : C.num = (i : Int) + 1) (hb : ∀ c, c < 60 → ByteOk (C.vals c)) : BSim (X.setSes k P) (B.setC i C) L := by
  have hne : ∀ q ∈ L, q ≠ (k, i) → q.1 ≠ k ∧ q.2 ≠ i := fun q hq' hne => ⟨fun e => hne (inj_of_nodup h.places hq' hq e), fun e => hne (inj_of_nodup h.idx hq' hq e)⟩
  have hlen : (B.setC i C).cls.length = B.cls.length := by simp [Bk.setC]
  refine { places := h.places, lt := h.lt, idx := h.idx, cli := ?_, free := ?_, dead := ?_, opened := by rw [hlen]; exact h.opened, latest := h.latest, pos := h.pos, last := h.last, hist := h.hist, histLe := h.histLe, histN := h.histN, room := h.room, byte := h.byte, cbyte := ?_ }
  · intro q hq'
    obtain ⟨hi, hnn, hss⟩ := h.cli q hq'
    by_cases e : q = (k, i)
    · subst e
      refine ⟨by rw [hlen]; exact hi, ?_, ?_⟩
      · simp [Bk.setC, hn]
      · show CliSim (upd X.ses k P k) _
        rw [upd_same]
        simpa [Bk.setC] using hs
    · obtain ⟨h1, h2⟩ := hne q hq' e
      have hget : (B.setC i C).cls[q.2]'(by rw [hlen]; exact hi) = B.cls[q.2] := by simp [Bk.setC, List.getElem_set_ne (Ne.symm h2)]
      refine ⟨by rw [hlen]; exact hi, by rw [hget]; exact hnn, ?_⟩
      rw [hget]
      show CliSim (upd X.ses k P q.1) _
      rw [upd_ne _ _ _ h1]
      exact hss
  · intro j hj hjL
    show (upd X.ses k P j).num = 0
    rw [upd_ne _ _ _ (fun e => hjL _ hq e.symm)]
    exact h.free j hj hjL
  · intro j hj hjL
    have : i ≠ j := fun e => hjL _ hq e
    have hj2 : j < B.cls.length := by rw [hlen] at hj; exact hj
    have hget : (B.setC i C).cls[j] = B.cls[j] := by simp [Bk.setC, List.getElem_set_ne this]
    rw [hget]
    exact h.dead j hj2 hjL
  · intro C' hC' c hc
    rcases List.mem_or_eq_of_mem_set hC' with hC' | rfl
    · exact h.cbyte C' hC' c hc
    · exact hb c hc
theorem CliSim.put {P : PSes} {C : Cli} (h : CliSim P C) (c : Nat) (b : Int) : CliSim (P.put c (toV b)) (C.put c b) := by
  refine ⟨h.num, h.snap, fun d hd => ?_⟩
  show upd P.wr c (some (toV b)) d = cliW (C.put c b) d
  by_cases e : d = c
  · subst e
    simp [cliW, Cli.put, upd]
  · rw [upd_ne _ _ _ e, h.wr d hd]
    simp [cliW, Cli.put, upd, e]

theorem BSim.drop {X : PEng} {B : Bk} {L : List (Nat × Nat)} (h : BSim X B L) {k i : Nat} (hq : (k, i) ∈ L) (C : Cli) (hn : C.num = 0) (hb : ∀ c, c < 60 → ByteOk (C.vals c)) : BSim (X.setSes k .zero) (B.setC i C) (L.filter fun q => q.2 != i) := by
  have hin : ∀ q ∈ L.filter (fun q => q.2 != i), q ∈ L ∧ q.1 ≠ k ∧ q.2 ≠ i := by
    intro q hq'
    obtain ⟨h1, h2⟩ := List.mem_filter.mp hq'
    have h3 : q.2 ≠ i := by simpa using h2
    exact ⟨h1, fun e => h3 (congrArg (·.2) (inj_of_nodup h.places h1 hq e)), h3⟩
  have hlen : (B.setC i C).cls.length = B.cls.length := by simp [Bk.setC]
  refine { places := h.places.sublist (List.filter_sublist.map _), lt := fun q hq' => h.lt q (hin q hq').1, idx := h.idx.sublist (List.filter_sublist.map _), cli := ?_, free := ?_, dead := ?_, opened := by rw [hlen]; exact h.opened, latest := h.latest, pos := h.pos, last := h.last, hist := h.hist, histLe := h.histLe, histN := h.histN, room := h.room, byte := h.byte, cbyte := ?_ }
  · intro q hq'
    obtain ⟨h1, h2, h3⟩ := hin q hq'
    obtain ⟨hi, hnn, hss⟩ := h.cli q h1
    have hget : (B.setC i C).cls[q.2]'(by rw [hlen]; exact hi) = B.cls[q.2] := by simp [Bk.setC, List.getElem_set_ne (Ne.symm h3)]
    refine ⟨by rw [hlen]; exact hi, by rw [hget]; exact hnn, ?_⟩
    rw [hget]
    show CliSim (upd X.ses k _ q.1) _
    rw [upd_ne _ _ _ h2]
    exact hss
  · intro j hj hjL
    show (upd X.ses k _ j).num = 0
    by_cases e : j = k
    · subst e; rw [upd_same]; rfl
    · rw [upd_ne _ _ _ e]
      apply h.free j hj
      rintro q hq' rfl
      refine hjL q (List.mem_filter.mpr ⟨hq', ?_⟩) rfl
      simp only [bne_iff_ne, ne_eq]
      intro hqi
      exact e (congrArg (·.1) (inj_of_nodup h.idx hq' hq hqi))
  · intro j hj hjL
    have hj2 : j < B.cls.length := by rw [hlen] at hj; exact hj
    by_cases e : i = j
    · subst e
      have hget : (B.setC i C).cls[i] = C := by simp [Bk.setC]
      rw [hget]; exact hn
    · have hget : (B.setC i C).cls[j] = B.cls[j] := by simp [Bk.setC, List.getElem_set_ne e]
      rw [hget]
      apply h.dead j hj2
      intro q hq' hqj
      refine hjL q (List.mem_filter.mpr ⟨hq', ?_⟩) hqj
      simp only [bne_iff_ne, ne_eq]
      omega
  · intro C' hC' c hc
    rcases List.mem_or_eq_of_mem_set hC' with hC' | rfl
    · exact h.cbyte C' hC' c hc
    · exact hb c hc

def Bk.commit (B : Bk) (C : Cli) : Bk := { B with
  commits := B.commits + 1
  latest := fun c => if C.wrote c then B.commits + 1 else B.latest c
  vals := fun c => if C.wrote c then C.vals c else B.vals c }
theorem BSim.commit {X : PEng} {B : Bk} {L : List (Nat × Nat)} (h : BSim X B L) {P : PSes} {C : Cli} (hs : ∀ c, c < 60 → P.wr c = cliW C c) (hb : ∀ c, c < 60 → ByteOk (C.vals c)) : BSim (X.commit P) (B.commit C) L := by
  have hp := h.pos
  have hw : ∀ c, c < 60 → (P.wr c).isSome = C.wrote c := fun c hc => by
    rw [hs c hc]
    unfold cliW
    cases C.wrote c <;> rfl
  have hN : ∀ c, c < 60 → (((X.commit P).hist c).length : Int) ≤ (B.commit C).commits := fun c hc => by
    have := h.histN c hc
    show ((match P.wr c with | some v => X.hist c ++ [(X.latest + 1, v)] | none => X.hist c).length : Int) ≤ B.commits + 1
    cases P.wr c with
    | none => simp only; omega
    | some v => simp only [List.length_append, List.length_cons, List.length_nil]; omega
  refine { places := h.places, lt := h.lt, idx := h.idx, cli := h.cli, free := h.free, dead := h.dead, opened := h.opened, latest := ?_, pos := ?_, last := ?_, hist := ?_, histLe := ?_, histN := hN, room := h.room, byte := ?_, cbyte := h.cbyte }
  · show X.latest + 1 = B.commits + 1
    rw [h.latest]
  · show 0 ≤ B.commits + 1
    omega
  · intro c hc
    show (if (P.wr c).isSome = true then X.latest + 1 else X.last c) = if C.wrote c = true then B.commits + 1 else B.latest c
    rw [hw c hc, h.latest, h.last c hc]
  · intro c hc
    show histAt (match P.wr c with | some v => X.hist c ++ [(X.latest + 1, v)] | none => X.hist c) (B.commits + 1) = toV (if C.wrote c = true then C.vals c else B.vals c)
    rw [hs c hc]
    unfold cliW
    cases hcw : C.wrote c with
    | true =>
      simp only [if_true]
      rw [histAt_snoc, h.latest, if_pos (Int.le_refl _)]
    | false =>
      simp only [Bool.false_eq_true, if_false]
      rw [← h.hist c hc]
      unfold histAt
      have hle := h.histLe c hc
      have hfind : ∀ l : List (Int × Option Int), (∀ p ∈ l, p.1 ≤ B.commits) → l.find? (fun p => decide (p.1 ≤ B.commits + 1)) = l.find? (fun p => decide (p.1 ≤ B.commits)) := by
        intro l hl
        cases l with
        | nil => rfl
        | cons a r =>
          have := hl a (by simp)
          rw [List.find?_cons, List.find?_cons, decide_eq_true (by omega), decide_eq_true (by omega)]
      rw [hfind _ (fun p hp => hle p (by simpa using hp))]
  · intro c hc p hp
    show p.1 ≤ B.commits + 1
    have hp' : p ∈ (match P.wr c with | some v => X.hist c ++ [(X.latest + 1, v)] | none => X.hist c) := hp
    cases hw : P.wr c with
    | none =>
      rw [hw] at hp'
      have := h.histLe c hc p hp'
      omega
    | some v =>
      rw [hw] at hp'
      rcases List.mem_append.mp hp' with hp' | hp'
      · have := h.histLe c hc p hp'; omega
      · simp at hp'
        rw [hp', h.latest]
        exact Int.le_refl _
  · intro c hc
    show ByteOk (if C.wrote c = true then C.vals c else B.vals c)
    split
    · exact hb c hc
    · exact h.byte c hc

/-- In conflict: by the book. -/
def bclash (B : Bk) (C : Cli) : Bool := (List.range 60).any fun c => C.wrote c && decide (B.latest c > C.begun)
def bsome (C : Cli) : Bool := (List.range 60).any fun c => C.wrote c
theorem any_same {f g : Nat → Bool} (h : ∀ c, c < 60 → f c = g c) : (List.range 60).any f = (List.range 60).any g := by
  rw [Bool.eq_iff_iff, List.any_eq_true, List.any_eq_true]
  constructor
  · rintro ⟨c, hc, hf⟩
    exact ⟨c, hc, by rw [← h c (by simpa using hc)]; exact hf⟩
  · rintro ⟨c, hc, hf⟩
    exact ⟨c, hc, by rw [h c (by simpa using hc)]; exact hf⟩
theorem CliSim.isSome {P : PSes} {C : Cli} (h : CliSim P C) {c : Nat} (hc : c < 60) : (P.wr c).isSome = C.wrote c := by
  rw [h.wr c hc]
  unfold cliW
  cases C.wrote c <;> rfl
theorem BSim.clash {X : PEng} {B : Bk} {L : List (Nat × Nat)} (h : BSim X B L) {P : PSes} {C : Cli} (hs : CliSim P C) : Go.Proofs.Ythlhbjnkohinmab.clash X P = bclash B C := by
  unfold Go.Proofs.Ythlhbjnkohinmab.clash bclash
  exact any_same (fun c hc => by rw [hs.isSome hc, h.last c hc, hs.snap])
theorem CliSim.hasW {P : PSes} {C : Cli} (hs : CliSim P C) : Go.Proofs.Ythlhbjnkohinmab.hasW P = bsome C := by
  unfold Go.Proofs.Ythlhbjnkohinmab.hasW bsome
  exact any_same (fun c hc => hs.isSome hc)

/-- What is shown in the end. -/
def shownT (v : Nat → Int) (n : Nat) : ByteArray := joined ((List.range n).filterMap fun c => if v c = 0 then none else some (strOfNums [97 + (c : Int) / 10, 48 + (c : Int) % 10, v c]))
theorem BSim.view {X : PEng} {B : Bk} {L : List (Nat × Nat)} (h : BSim X B L) {k : Nat} (hk : (X.ses k).wr = fun _ => none) (hsn : (X.ses k).snap = B.commits) : viewP X k = shownT B.vals 60 := by
  unfold viewP shownT
  congr 1
  apply filterMap_same
  intro c hc
  have hc60 : c < 60 := by simpa using hc
  have e : seenP X k c = toV (B.vals c) := by
    unfold seenP
    rw [hk]
    show histAt (X.hist c) (X.ses k).snap = _
    rw [hsn]
    exact h.hist c hc60
  rw [e]
  unfold toV
  split
  · rfl
  · have e2 : 48 + (B.vals c - 48) = B.vals c := by omega
    simp [factP, e2]
theorem BSim.digs {X : PEng} {B : Bk} {L : List (Nat × Nat)} (h : BSim X B L) {k : Nat} (hk : (X.ses k).wr = fun _ => none) (hsn : (X.ses k).snap = B.commits) : ∀ c v, c < 60 → seenP X k c = some v → 0 ≤ v ∧ v ≤ 9 := by
  intro c v hc hv
  unfold seenP at hv
  rw [hk] at hv
  have hv' : histAt (X.hist c) (X.ses k).snap = some v := hv
  rw [hsn, h.hist c hc] at hv'
  unfold toV at hv'
  split at hv'
  · cases hv'
  · cases hv'
    rcases h.byte c hc with hb | hb
    · contradiction
    · omega

end Go.Proofs.Ythlhbjnkohinmab

/- The statements without the document's answer: an act. (Written by program: wip/tools/mk_keep1.py.) -/
namespace Go.Proofs.Ythlhbjnkohinmab
open Go.RowKit

theorem ATo.scratch {P : Asn} (hP : Framed P) {f S : List Nat} {w W w1 w2 : World} (h : ATo P f W w1) (h0 : Fr [] w W) (hf : ∀ x ∈ f, x < w.heap.size) (k : Fr S w1 w2) (hS : ∀ y ∈ S, w.heap.size ≤ y ∧ y < W.heap.size) : ATo P f w w2 := by
  obtain ⟨f', a, n, s, r⟩ := h
  have hno : ∀ x ∈ f', x ∉ S := fun x hx e => by
    have h1 := hS x e
    rcases s x hx with h | h
    · have := hf x h; omega
    · omega
  refine ⟨f', hP a k hno, n, fun x hx => ?_, ?_⟩
  · rcases s x hx with h | h
    · exact .inl h
    · exact .inr (Nat.le_trans h0.size h)
  · have r1 : Fr f w w1 := (h0.mono (fun k hk => by cases hk)).trans r
    exact fr_then r1 k (fun x hx => .inr (hS x hx).1)

theorem heap_alloc_at {w : World} {o : Obj} {n : Nat} (h : n = w.heap.size) : (w.alloc o).heap[n]? = some o := by subst h; exact heap_alloc_new w o

/-- An act, as a value. -/
abbrev actV (k b c : Int) (s : ByteArray) : Value := .agg #[.int .i64 k, .int .i64 b, .int .i64 c, .string s]
abbrev ansV (s : ByteArray) (n m e : Int) : Value := .agg #[.string s, .int .i64 n, .int .i64 m, .int .i64 e]

set_option maxRecDepth 20000 in
set_option maxHeartbeats 2000000 in
theorem act_put (x : Nat) (X : PEng) (f : List Nat) (b c : Int) (s : ByteArray) (w : World) (h : PEngA x X w f) (hn : f.Nodup) (hs63 : s.size < 9223372036854775808) (hm : ∀ k, findP X b = some k → (X.ses k).more) :
    Calls Try.prog 6 #[.pointer (some ⟨x, 0, none⟩), actV 2 b c s] w fun e w' => e = .returned (ansV ByteArray.empty 0 0 (pputF X b s).1) ∧ ATo (PEngA x (pputF X b s).2) f w w' := by
  have hwi := PEngA.within _ _ h
  have HC : Hid (∀ W, Fr [] w W → Calls Try.prog 14 #[.pointer (some ⟨x, 0, none⟩), .int .i64 b, .string s] W fun e w' => e = .returned (.int .i64 (pputF X b s).1) ∧ ATo (PEngA x (pputF X b s).2) f W w') := hid (fun W hW => pput_to x X f b s W (PEngA.framed _ _ h hW (by simp)) hn hs63 hm)
  have HFIN : Hid (∀ W w1 w2 S, ATo (PEngA x (pputF X b s).2) f W w1 → Fr [] w W → Fr S w1 w2 → (∀ y ∈ S, w.heap.size ≤ y ∧ y < W.heap.size) → ATo (PEngA x (pputF X b s).2) f w w2) := hid (fun W w1 w2 S h1 h0 k hS => h1.scratch (PEngA.framed _ _) h0 hwi k hS)
  have hnf1 : w.heap.size + 1 ∉ f := fun e => by have := hwi _ e; omega
  have hnf2 : w.heap.size + 1 + 1 ∉ f := fun e => by have := hwi _ e; omega
  obtain ⟨r, hr⟩ : ∃ r, r = (pputF X b s).1 := ⟨_, rfl⟩
  rw [← hr] at HC ⊢
  clear hr
  clear h hn hwi
  go_enter Try.func6, Try.ntmps6
  go_wp2_with fail
  go_at_call 14
  refine (HC.out _ (((Fr.refl [] w).alloc _).alloc _ |>.alloc _)).mono ?_
  rintro e w1 ⟨rfl, ht⟩
  have HT := hid ht
  obtain ⟨_, _, _, _, hfr⟩ := ht
  have b1 : w1.heap[w.heap.size + 1]? = some (.cells #[.string ByteArray.empty, .int .i64 0, .int .i64 0, .int .i64 0] 29 (0, 0)) := (hfr.block _ (by simp) hnf1).trans ((Below.heap_alloc _ _ _ (by simp)).trans (heap_alloc_at (by simp)))
  have b2 : w1.heap[w.heap.size + 1 + 1]? = some (.cells #[.string ByteArray.empty, .int .i64 0, .int .i64 0, .int .i64 0] 29 (0, 0)) := (hfr.block _ (by simp) hnf2).trans (heap_alloc_at (by simp))
  have p0 : w1.cell? ⟨w.heap.size + 1, 0, none⟩ = some (.string ByteArray.empty) := by rw [cell_of_row _ _ _ _ _ _ b1]; rfl
  have p1 : w1.cell? ⟨w.heap.size + 1, 1, none⟩ = some (.int .i64 0) := by rw [cell_of_row _ _ _ _ _ _ b1]; rfl
  have p2 : w1.cell? ⟨w.heap.size + 1, 2, none⟩ = some (.int .i64 0) := by rw [cell_of_row _ _ _ _ _ _ b1]; rfl
  have p3 : w1.cell? ⟨w.heap.size + 1, 3, none⟩ = some (.int .i64 0) := by rw [cell_of_row _ _ _ _ _ _ b1]; rfl
  have q0 : w1.cell? ⟨w.heap.size + 1 + 1, 0, none⟩ = some (.string ByteArray.empty) := by rw [cell_of_row _ _ _ _ _ _ b2]; rfl
  have q1 : w1.cell? ⟨w.heap.size + 1 + 1, 1, none⟩ = some (.int .i64 0) := by rw [cell_of_row _ _ _ _ _ _ b2]; rfl
  have q2 : w1.cell? ⟨w.heap.size + 1 + 1, 2, none⟩ = some (.int .i64 0) := by rw [cell_of_row _ _ _ _ _ _ b2]; rfl
  have q3 : w1.cell? ⟨w.heap.size + 1 + 1, 3, none⟩ = some (.int .i64 0) := by rw [cell_of_row _ _ _ _ _ _ b2]; rfl
  have zp := frozen_blk b1
  have zq := frozen_blk b2
  have HB1 := hid b1
  clear hfr b1 b2 hnf1 hnf2
  go_wp2_with fail
  refine bodyPost_ret (v := ansV ByteArray.empty 0 0 r) (results_cell_row Try.results6 _ _ _ _ _ _ _ rfl (Go.heap_setCell_same _ _ 3 _ _ _ (Go.heap_setCell_same _ _ 2 _ _ _ (Go.heap_setCell_same _ _ 1 _ _ _ (Go.heap_setCell_same _ _ 0 _ _ _ ((Below.heap_setCell _ _ _ _ (by simp)).trans (HB1.out)))))) Try.underlying29 rfl (by kernel_rfl)) rfl ⟨rfl, HFIN.out _ _ _ [w.heap.size + 1, w.heap.size + 1 + 1] HT.out (((Fr.refl [] w).alloc _).alloc _ |>.alloc _) ?_ (by simp; omega)⟩
  exact ((((((Fr.refl [w.heap.size + 1, w.heap.size + 1 + 1] w1).set (.inl (by simp)) _).set (.inl (by simp)) _).set (.inl (by simp)) _).set (.inl (by simp)) _).set (.inl (by simp)) _)

set_option maxRecDepth 20000 in
set_option maxHeartbeats 2000000 in
theorem act_clear (x : Nat) (X : PEng) (f : List Nat) (b c : Int) (s : ByteArray) (w : World) (h : PEngA x X w f) (hn : f.Nodup) (hs63 : s.size < 9223372036854775808) (hm : ∀ k, findP X b = some k → (X.ses k).more) :
    Calls Try.prog 6 #[.pointer (some ⟨x, 0, none⟩), actV 3 b c s] w fun e w' => e = .returned (ansV ByteArray.empty 0 0 (pclearF X b s).1) ∧ ATo (PEngA x (pclearF X b s).2) f w w' := by
  have hwi := PEngA.within _ _ h
  have HC : Hid (∀ W, Fr [] w W → Calls Try.prog 15 #[.pointer (some ⟨x, 0, none⟩), .int .i64 b, .string s] W fun e w' => e = .returned (.int .i64 (pclearF X b s).1) ∧ ATo (PEngA x (pclearF X b s).2) f W w') := hid (fun W hW => pclear_to x X f b s W (PEngA.framed _ _ h hW (by simp)) hn hs63 hm)
  have HFIN : Hid (∀ W w1 w2 S, ATo (PEngA x (pclearF X b s).2) f W w1 → Fr [] w W → Fr S w1 w2 → (∀ y ∈ S, w.heap.size ≤ y ∧ y < W.heap.size) → ATo (PEngA x (pclearF X b s).2) f w w2) := hid (fun W w1 w2 S h1 h0 k hS => h1.scratch (PEngA.framed _ _) h0 hwi k hS)
  have hnf1 : w.heap.size + 1 ∉ f := fun e => by have := hwi _ e; omega
  have hnf2 : w.heap.size + 1 + 1 ∉ f := fun e => by have := hwi _ e; omega
  obtain ⟨r, hr⟩ : ∃ r, r = (pclearF X b s).1 := ⟨_, rfl⟩
  rw [← hr] at HC ⊢
  clear hr
  clear h hn hwi
  go_enter Try.func6, Try.ntmps6
  go_wp2_with fail
  go_at_call 15
  refine (HC.out _ (((Fr.refl [] w).alloc _).alloc _ |>.alloc _)).mono ?_
  rintro e w1 ⟨rfl, ht⟩
  have HT := hid ht
  obtain ⟨_, _, _, _, hfr⟩ := ht
  have b1 : w1.heap[w.heap.size + 1]? = some (.cells #[.string ByteArray.empty, .int .i64 0, .int .i64 0, .int .i64 0] 29 (0, 0)) := (hfr.block _ (by simp) hnf1).trans ((Below.heap_alloc _ _ _ (by simp)).trans (heap_alloc_at (by simp)))
  have b2 : w1.heap[w.heap.size + 1 + 1]? = some (.cells #[.string ByteArray.empty, .int .i64 0, .int .i64 0, .int .i64 0] 29 (0, 0)) := (hfr.block _ (by simp) hnf2).trans (heap_alloc_at (by simp))
  have p0 : w1.cell? ⟨w.heap.size + 1, 0, none⟩ = some (.string ByteArray.empty) := by rw [cell_of_row _ _ _ _ _ _ b1]; rfl
  have p1 : w1.cell? ⟨w.heap.size + 1, 1, none⟩ = some (.int .i64 0) := by rw [cell_of_row _ _ _ _ _ _ b1]; rfl
  have p2 : w1.cell? ⟨w.heap.size + 1, 2, none⟩ = some (.int .i64 0) := by rw [cell_of_row _ _ _ _ _ _ b1]; rfl
  have p3 : w1.cell? ⟨w.heap.size + 1, 3, none⟩ = some (.int .i64 0) := by rw [cell_of_row _ _ _ _ _ _ b1]; rfl
  have q0 : w1.cell? ⟨w.heap.size + 1 + 1, 0, none⟩ = some (.string ByteArray.empty) := by rw [cell_of_row _ _ _ _ _ _ b2]; rfl
  have q1 : w1.cell? ⟨w.heap.size + 1 + 1, 1, none⟩ = some (.int .i64 0) := by rw [cell_of_row _ _ _ _ _ _ b2]; rfl
  have q2 : w1.cell? ⟨w.heap.size + 1 + 1, 2, none⟩ = some (.int .i64 0) := by rw [cell_of_row _ _ _ _ _ _ b2]; rfl
  have q3 : w1.cell? ⟨w.heap.size + 1 + 1, 3, none⟩ = some (.int .i64 0) := by rw [cell_of_row _ _ _ _ _ _ b2]; rfl
  have zp := frozen_blk b1
  have zq := frozen_blk b2
  have HB1 := hid b1
  clear hfr b1 b2 hnf1 hnf2
  go_wp2_with fail
  refine bodyPost_ret (v := ansV ByteArray.empty 0 0 r) (results_cell_row Try.results6 _ _ _ _ _ _ _ rfl (Go.heap_setCell_same _ _ 3 _ _ _ (Go.heap_setCell_same _ _ 2 _ _ _ (Go.heap_setCell_same _ _ 1 _ _ _ (Go.heap_setCell_same _ _ 0 _ _ _ ((Below.heap_setCell _ _ _ _ (by simp)).trans (HB1.out)))))) Try.underlying29 rfl (by kernel_rfl)) rfl ⟨rfl, HFIN.out _ _ _ [w.heap.size + 1, w.heap.size + 1 + 1] HT.out (((Fr.refl [] w).alloc _).alloc _ |>.alloc _) ?_ (by simp; omega)⟩
  exact ((((((Fr.refl [w.heap.size + 1, w.heap.size + 1 + 1] w1).set (.inl (by simp)) _).set (.inl (by simp)) _).set (.inl (by simp)) _).set (.inl (by simp)) _).set (.inl (by simp)) _)

set_option maxRecDepth 20000 in
set_option maxHeartbeats 2000000 in
theorem act_abort (x : Nat) (X : PEng) (f : List Nat) (b c : Int) (s : ByteArray) (w : World) (h : PEngA x X w f) (hn : f.Nodup) :
    Calls Try.prog 6 #[.pointer (some ⟨x, 0, none⟩), actV 5 b c s] w fun e w' => e = .returned (ansV ByteArray.empty 0 0 (pabortF X b).1) ∧ ATo (PEngA x (pabortF X b).2) f w w' := by
  have hwi := PEngA.within _ _ h
  have HC : Hid (∀ W, Fr [] w W → Calls Try.prog 7 #[.pointer (some ⟨x, 0, none⟩), .int .i64 b] W fun e w' => e = .returned (.int .i64 (pabortF X b).1) ∧ ATo (PEngA x (pabortF X b).2) f W w') := hid (fun W hW => pabort_to x X f b W (PEngA.framed _ _ h hW (by simp)) hn)
  have HFIN : Hid (∀ W w1 w2 S, ATo (PEngA x (pabortF X b).2) f W w1 → Fr [] w W → Fr S w1 w2 → (∀ y ∈ S, w.heap.size ≤ y ∧ y < W.heap.size) → ATo (PEngA x (pabortF X b).2) f w w2) := hid (fun W w1 w2 S h1 h0 k hS => h1.scratch (PEngA.framed _ _) h0 hwi k hS)
  have hnf1 : w.heap.size + 1 ∉ f := fun e => by have := hwi _ e; omega
  have hnf2 : w.heap.size + 1 + 1 ∉ f := fun e => by have := hwi _ e; omega
  obtain ⟨r, hr⟩ : ∃ r, r = (pabortF X b).1 := ⟨_, rfl⟩
  rw [← hr] at HC ⊢
  clear hr
  clear h hn hwi
  go_enter Try.func6, Try.ntmps6
  go_wp2_with fail
  go_at_call 7
  refine (HC.out _ (((Fr.refl [] w).alloc _).alloc _ |>.alloc _)).mono ?_
  rintro e w1 ⟨rfl, ht⟩
  have HT := hid ht
  obtain ⟨_, _, _, _, hfr⟩ := ht
  have b1 : w1.heap[w.heap.size + 1]? = some (.cells #[.string ByteArray.empty, .int .i64 0, .int .i64 0, .int .i64 0] 29 (0, 0)) := (hfr.block _ (by simp) hnf1).trans ((Below.heap_alloc _ _ _ (by simp)).trans (heap_alloc_at (by simp)))
  have b2 : w1.heap[w.heap.size + 1 + 1]? = some (.cells #[.string ByteArray.empty, .int .i64 0, .int .i64 0, .int .i64 0] 29 (0, 0)) := (hfr.block _ (by simp) hnf2).trans (heap_alloc_at (by simp))
  have p0 : w1.cell? ⟨w.heap.size + 1, 0, none⟩ = some (.string ByteArray.empty) := by rw [cell_of_row _ _ _ _ _ _ b1]; rfl
  have p1 : w1.cell? ⟨w.heap.size + 1, 1, none⟩ = some (.int .i64 0) := by rw [cell_of_row _ _ _ _ _ _ b1]; rfl
  have p2 : w1.cell? ⟨w.heap.size + 1, 2, none⟩ = some (.int .i64 0) := by rw [cell_of_row _ _ _ _ _ _ b1]; rfl
  have p3 : w1.cell? ⟨w.heap.size + 1, 3, none⟩ = some (.int .i64 0) := by rw [cell_of_row _ _ _ _ _ _ b1]; rfl
  have q0 : w1.cell? ⟨w.heap.size + 1 + 1, 0, none⟩ = some (.string ByteArray.empty) := by rw [cell_of_row _ _ _ _ _ _ b2]; rfl
  have q1 : w1.cell? ⟨w.heap.size + 1 + 1, 1, none⟩ = some (.int .i64 0) := by rw [cell_of_row _ _ _ _ _ _ b2]; rfl
  have q2 : w1.cell? ⟨w.heap.size + 1 + 1, 2, none⟩ = some (.int .i64 0) := by rw [cell_of_row _ _ _ _ _ _ b2]; rfl
  have q3 : w1.cell? ⟨w.heap.size + 1 + 1, 3, none⟩ = some (.int .i64 0) := by rw [cell_of_row _ _ _ _ _ _ b2]; rfl
  have zp := frozen_blk b1
  have zq := frozen_blk b2
  have HB1 := hid b1
  clear hfr b1 b2 hnf1 hnf2
  go_wp2_with fail
  refine bodyPost_ret (v := ansV ByteArray.empty 0 0 r) (results_cell_row Try.results6 _ _ _ _ _ _ _ rfl (Go.heap_setCell_same _ _ 3 _ _ _ (Go.heap_setCell_same _ _ 2 _ _ _ (Go.heap_setCell_same _ _ 1 _ _ _ (Go.heap_setCell_same _ _ 0 _ _ _ ((Below.heap_setCell _ _ _ _ (by simp)).trans (HB1.out)))))) Try.underlying29 rfl (by kernel_rfl)) rfl ⟨rfl, HFIN.out _ _ _ [w.heap.size + 1, w.heap.size + 1 + 1] HT.out (((Fr.refl [] w).alloc _).alloc _ |>.alloc _) ?_ (by simp; omega)⟩
  exact ((((((Fr.refl [w.heap.size + 1, w.heap.size + 1 + 1] w1).set (.inl (by simp)) _).set (.inl (by simp)) _).set (.inl (by simp)) _).set (.inl (by simp)) _).set (.inl (by simp)) _)

set_option maxRecDepth 20000 in
set_option maxHeartbeats 2000000 in
theorem act_commit (x : Nat) (X : PEng) (f : List Nat) (b c : Int) (s : ByteArray) (w : World) (h : PEngA x X w f) (hn : f.Nodup) (hlat : 0 ≤ X.latest ∧ X.latest < 9223372036854775807) (hl : ∀ c, c < 60 → ((X.hist c).length + 1) * 24 ≤ 140737488355328) (hr : ∀ k, findP X b = some k → ((keptN X 60 + writN (X.ses k) 60 : Nat) : Int) ≤ X.room) (hm : X.room ≤ 999) :
    Calls Try.prog 6 #[.pointer (some ⟨x, 0, none⟩), actV 6 b c s] w fun e w' => e = .returned (ansV ByteArray.empty (pcommitF X b).1.1 0 (pcommitF X b).1.2) ∧ ATo (PEngA x (pcommitF X b).2) f w w' := by
  have hwi := PEngA.within _ _ h
  have HC : Hid (∀ W, Fr [] w W → Calls Try.prog 16 #[.pointer (some ⟨x, 0, none⟩), .int .i64 b] W fun e w' => e = .returned (.tuple #[.int .i64 (pcommitF X b).1.1, .int .i64 (pcommitF X b).1.2]) ∧ ATo (PEngA x (pcommitF X b).2) f W w') := hid (fun W hW => pcommit_any x X f b W (PEngA.framed _ _ h hW (by simp)) hn hlat hl hr hm)
  have HFIN : Hid (∀ W w1 w2 S, ATo (PEngA x (pcommitF X b).2) f W w1 → Fr [] w W → Fr S w1 w2 → (∀ y ∈ S, w.heap.size ≤ y ∧ y < W.heap.size) → ATo (PEngA x (pcommitF X b).2) f w w2) := hid (fun W w1 w2 S h1 h0 k hS => h1.scratch (PEngA.framed _ _) h0 hwi k hS)
  have hnf1 : w.heap.size + 1 ∉ f := fun e => by have := hwi _ e; omega
  have hnf2 : w.heap.size + 1 + 1 ∉ f := fun e => by have := hwi _ e; omega
  obtain ⟨r1, hr1⟩ : ∃ r1, r1 = (pcommitF X b).1.1 := ⟨_, rfl⟩
  obtain ⟨r2, hr2⟩ : ∃ r2, r2 = (pcommitF X b).1.2 := ⟨_, rfl⟩
  rw [← hr1, ← hr2] at HC ⊢
  clear hr1 hr2
  clear h hn hwi
  go_enter Try.func6, Try.ntmps6
  go_wp2_with fail
  go_at_call 16
  refine (HC.out _ (((Fr.refl [] w).alloc _).alloc _ |>.alloc _)).mono ?_
  rintro e w1 ⟨rfl, ht⟩
  have HT := hid ht
  obtain ⟨_, _, _, _, hfr⟩ := ht
  have b1 : w1.heap[w.heap.size + 1]? = some (.cells #[.string ByteArray.empty, .int .i64 0, .int .i64 0, .int .i64 0] 29 (0, 0)) := (hfr.block _ (by simp) hnf1).trans ((Below.heap_alloc _ _ _ (by simp)).trans (heap_alloc_at (by simp)))
  have b2 : w1.heap[w.heap.size + 1 + 1]? = some (.cells #[.string ByteArray.empty, .int .i64 0, .int .i64 0, .int .i64 0] 29 (0, 0)) := (hfr.block _ (by simp) hnf2).trans (heap_alloc_at (by simp))
  have p0 : w1.cell? ⟨w.heap.size + 1, 0, none⟩ = some (.string ByteArray.empty) := by rw [cell_of_row _ _ _ _ _ _ b1]; rfl
  have p1 : w1.cell? ⟨w.heap.size + 1, 1, none⟩ = some (.int .i64 0) := by rw [cell_of_row _ _ _ _ _ _ b1]; rfl
  have p2 : w1.cell? ⟨w.heap.size + 1, 2, none⟩ = some (.int .i64 0) := by rw [cell_of_row _ _ _ _ _ _ b1]; rfl
  have p3 : w1.cell? ⟨w.heap.size + 1, 3, none⟩ = some (.int .i64 0) := by rw [cell_of_row _ _ _ _ _ _ b1]; rfl
  have q0 : w1.cell? ⟨w.heap.size + 1 + 1, 0, none⟩ = some (.string ByteArray.empty) := by rw [cell_of_row _ _ _ _ _ _ b2]; rfl
  have q1 : w1.cell? ⟨w.heap.size + 1 + 1, 1, none⟩ = some (.int .i64 0) := by rw [cell_of_row _ _ _ _ _ _ b2]; rfl
  have q2 : w1.cell? ⟨w.heap.size + 1 + 1, 2, none⟩ = some (.int .i64 0) := by rw [cell_of_row _ _ _ _ _ _ b2]; rfl
  have q3 : w1.cell? ⟨w.heap.size + 1 + 1, 3, none⟩ = some (.int .i64 0) := by rw [cell_of_row _ _ _ _ _ _ b2]; rfl
  have zp := frozen_blk b1
  have zq := frozen_blk b2
  have HB1 := hid b1
  clear hfr b1 b2 hnf1 hnf2
  go_wp2_with fail
  refine bodyPost_ret (v := ansV ByteArray.empty r1 0 r2) (results_cell_row Try.results6 _ _ _ _ _ _ _ rfl (Go.heap_setCell_same _ _ 3 _ _ _ (Go.heap_setCell_same _ _ 2 _ _ _ (Go.heap_setCell_same _ _ 1 _ _ _ (Go.heap_setCell_same _ _ 0 _ _ _ ((Below.heap_setCell _ _ _ _ (by simp)).trans ((Below.heap_setCell _ _ _ _ (by simp)).trans ((Below.heap_setCell _ _ _ _ (by simp)).trans ((Below.heap_setCell _ _ _ _ (by simp)).trans (HB1.out))))))))) Try.underlying29 rfl (by kernel_rfl)) rfl ⟨rfl, HFIN.out _ _ _ [w.heap.size + 1, w.heap.size + 1 + 1] HT.out (((Fr.refl [] w).alloc _).alloc _ |>.alloc _) ?_ (by simp; omega)⟩
  exact (((((((((Fr.refl [w.heap.size + 1, w.heap.size + 1 + 1] w1).set (.inl (by simp)) _).set (.inl (by simp)) _).set (.inl (by simp)) _).set (.inl (by simp)) _).set (.inl (by simp)) _).set (.inl (by simp)) _).set (.inl (by simp)) _).set (.inl (by simp)) _)

end Go.Proofs.Ythlhbjnkohinmab
