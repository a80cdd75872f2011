import Derived.Test.YthlhbjnkohinmaaGreatPart07
import Derived.Test.YthlhbjnkohinmaaGreatPart03
/- What is known of a pair stays known; Open of a pair. -/
namespace Go.Proofs.YthlhbjnkohinmaaGreat
open Go.RowKit

theorem good_open {i : Nat} {X : PEng} {E : Eng} (h : Good i (X, E)) : Good (i + 1) ((popenF X).2, (rbeginF E).2) ∧ (popenF X).1 = (rbeginF E).1 ∧ (popenF X).2.hist = X.hist := by
  obtain ⟨⟨L, hs⟩, hb⟩ := h
  obtain ⟨h1, L', h2⟩ := hs.open
  have hh : (popenF X).2.hist = X.hist := by unfold popenF; cases numberedP X 0 <;> rfl
  refine ⟨⟨⟨L', h2⟩, ?_⟩, h1, hh⟩
  have b := hb.mono (Nat.le_succ i)
  unfold rbeginF at *
  by_cases h8 : 8 ≤ E.opn.length
  · rw [if_pos h8]
    exact ⟨b.room, b.opened, b.wrLen, b.wrVal, b.comLen, b.comEach, b.comVal, b.kept, fun c => by show ((popenF X).2.hist c).length ≤ i + 1; rw [hh]; exact b.hist c⟩
  · rw [if_neg h8]
    refine ⟨b.room, ?_, fun S hS => ?_, fun S hS => ?_, b.comLen, b.comEach, b.comVal, b.kept, fun c => by show ((popenF X).2.hist c).length ≤ i + 1; rw [hh]; exact b.hist c⟩
    · have := hb.opened
      show E.opened + 1 ≤ ((i + 1 : Nat) : Int)
      simp at this
      omega
    · rcases List.mem_append.mp hS with hS | hS
      · exact b.wrLen S hS
      · simp at hS; rw [hS]; simp
    · rcases List.mem_append.mp hS with hS | hS
      · exact b.wrVal S hS
      · simp at hS; rw [hS]; intro q hq; cases hq

theorem bnd_add {i : Nat} {X X' : PEng} {E : Eng} (hb : Bnd i X E) (k : Nat) (p : Wr) (hp : -1 ≤ p.2 ∧ p.2 ≤ 9) (hh : X'.hist = X.hist) : Bnd (i + 1) X' (addW E k p) := by
  have b := hb.mono (Nat.le_succ i)
  have hmem : ∀ S ∈ (addW E k p).opn, S ∈ E.opn ∨ ∃ S0 ∈ E.opn, S = S0.add p := by
    intro S hS
    obtain ⟨j, hj, rfl⟩ := List.mem_iff_getElem.mp hS
    have hj2 : j < E.opn.length := by simpa [addW] using hj
    simp only [addW, List.getElem_modify]
    split
    · exact .inr ⟨_, List.getElem_mem hj2, rfl⟩
    · exact .inl (List.getElem_mem hj2)
  refine ⟨b.room, b.opened, fun S hS => ?_, fun S hS => ?_, b.comLen, b.comEach, b.comVal, b.kept, fun c => by rw [hh]; exact b.hist c⟩
  · rcases hmem S hS with h | ⟨S0, h, rfl⟩
    · exact b.wrLen S h
    · have := hb.wrLen S0 h
      simp [Ses.add]
      omega
  · rcases hmem S hS with h | ⟨S0, h, rfl⟩
    · exact b.wrVal S h
    · intro q hq
      simp only [Ses.add, List.mem_append, List.mem_singleton] at hq
      rcases hq with hq | rfl
      · exact b.wrVal S0 h q hq
      · exact hp
theorem bnd_hist {i : Nat} {X X' : PEng} {E : Eng} (hb : Bnd i X E) (hh : X'.hist = X.hist) : Bnd (i + 1) X' E := by
  have b := hb.mono (Nat.le_succ i)
  exact ⟨b.room, b.opened, b.wrLen, b.wrVal, b.comLen, b.comEach, b.comVal, b.kept, fun c => by rw [hh]; exact b.hist c⟩

theorem good_put {i : Nat} {X : PEng} {E : Eng} (h : Good i (X, E)) (n : Int) (s : ByteArray) : Good (i + 1) ((pputF X n s).2, (rputF E n s).2) ∧ (pputF X n s).1 = (rputF E n s).1 ∧ (pputF X n s).2.hist = X.hist := by
  obtain ⟨⟨L, hs⟩, hb⟩ := h
  obtain ⟨h1, h2⟩ := hs.put n s
  have hh : (pputF X n s).2.hist = X.hist := by
    unfold pputF
    cases findP X n with
    | none => rfl
    | some k => cases factB s <;> rfl
  refine ⟨⟨h2, ?_⟩, h1, hh⟩
  show Bnd (i + 1) (pputF X n s).2 (rputF E n s).2
  unfold rputF
  cases idxS E.opn n with
  | none => exact bnd_hist hb hh
  | some k =>
    cases hf : factB s with
    | false => exact bnd_hist hb hh
    | true =>
      refine bnd_add hb k _ ?_ hh
      simp only [factB, Bool.and_eq_true, digB, decide_eq_true_eq] at hf
      show -1 ≤ bt s 2 - 48 ∧ bt s 2 - 48 ≤ 9
      omega
theorem good_clear {i : Nat} {X : PEng} {E : Eng} (h : Good i (X, E)) (n : Int) (s : ByteArray) : Good (i + 1) ((pclearF X n s).2, (rclearF E n s).2) ∧ (pclearF X n s).1 = (rclearF E n s).1 ∧ (pclearF X n s).2.hist = X.hist := by
  obtain ⟨⟨L, hs⟩, hb⟩ := h
  obtain ⟨h1, h2⟩ := hs.clear n s
  have hh : (pclearF X n s).2.hist = X.hist := by
    unfold pclearF
    cases findP X n with
    | none => rfl
    | some k => cases cellB s <;> rfl
  refine ⟨⟨h2, ?_⟩, h1, hh⟩
  show Bnd (i + 1) (pclearF X n s).2 (rclearF E n s).2
  unfold rclearF
  cases idxS E.opn n with
  | none => exact bnd_hist hb hh
  | some k =>
    cases hf : cellB s with
    | false => exact bnd_hist hb hh
    | true => exact bnd_add hb k _ (by simp) hh
theorem bnd_end {i : Nat} {X X' : PEng} {E : Eng} (hb : Bnd i X E) (n : Int) (hh : ∀ c, (X'.hist c).length ≤ i) : Bnd i X' (rendF E n) :=
  ⟨hb.room, hb.opened, fun S hS => hb.wrLen S (List.mem_filter.mp hS).1, fun S hS => hb.wrVal S (List.mem_filter.mp hS).1, hb.comLen, hb.comEach, hb.comVal, hb.kept, hh⟩
theorem good_abort {i : Nat} {X : PEng} {E : Eng} (h : Good i (X, E)) (n : Int) : Good (i + 1) ((pabortF X n).2, (rabortF E n).2) ∧ (pabortF X n).1 = (rabortF E n).1 ∧ (pabortF X n).2.hist = X.hist := by
  obtain ⟨⟨L, hs⟩, hb⟩ := h
  obtain ⟨h1, h2⟩ := hs.abort n
  have hh : (pabortF X n).2.hist = X.hist := by
    unfold pabortF
    cases findP X n <;> rfl
  refine ⟨⟨h2, ?_⟩, h1, hh⟩
  show Bnd (i + 1) (pabortF X n).2 (rabortF E n).2
  unfold rabortF
  cases idxS E.opn n with
  | none => exact bnd_hist hb hh
  | some k => exact bnd_end (hb.mono (Nat.le_succ i)) n (fun c => by rw [hh]; exact Nat.le_succ_of_le (hb.hist c))

/-- A pair behind a step. -/
def PairTo (g i : Nat) (f : List Nat) (w w' : World) : Prop := ∃ q', ATo (PairA (.pointer (some ⟨g, 0, none⟩)) q') f w w' ∧ Good (i + 1) q'

/-- A step, as a value. -/
abbrev stepV (k a b c : Int) (s : ByteArray) : Value := .agg #[.int .i64 k, .int .i64 a, .int .i64 b, .int .i64 c, .string s]
abbrev stepC (k a b c : Int) (s : ByteArray) : Obj := .cells #[.int .i64 k, .int .i64 a, .int .i64 b, .int .i64 c, .string s] 30

/-- What a walk over a pair's step begins with. -/
structure Start (g x y : Nat) (X : PEng) (E : Eng) (f1 f2 : List Nat) (i : Nat) (w : World) : Prop where
  pair : PairAt g x y X E w f1 f2
  nodup : (g :: (f1 ++ f2)).Nodup
  good : Good i (X, E)
  small : i ≤ 4000000000000
theorem Start.grown {g x y : Nat} {X : PEng} {E : Eng} {f1 f2 : List Nat} {i : Nat} {w w' : World} (h : Start g x y X E f1 f2 i w) (hf : Fr [] w w') : Start g x y X E f1 f2 i w' := ⟨h.pair.grown hf, h.nodup, h.good, h.small⟩
theorem Start.apart {g x y : Nat} {X : PEng} {E : Eng} {f1 f2 : List Nat} {i : Nat} {w : World} (h : Start g x y X E f1 f2 i w) : g ∉ f1 ∧ g ∉ f2 ∧ (∀ k ∈ f2, k ∉ f1) ∧ f1.Nodup ∧ f2.Nodup ∧ (∀ k ∈ f1, k < w.heap.size) ∧ (∀ k ∈ f2, k < w.heap.size) := by
  have hn := h.nodup
  rw [List.nodup_cons, List.nodup_append] at hn
  obtain ⟨ng, nf1, nf2, nd⟩ := hn
  exact ⟨fun e => ng (by simp [e]), fun e => ng (by simp [e]), fun k h2 h1 => nd k h1 k h2 rfl, nf1, nf2, PEngA.within _ _ h.pair.prog, EngA.within (QR.within _) _ _ h.pair.doc⟩
/-- The document's engine behind the program's call. -/
theorem Start.doc {g x y : Nat} {X X' : PEng} {E : Eng} {f1 f2 : List Nat} {i : Nat} {w w1 : World} (h : Start g x y X E f1 f2 i w) (h1 : ATo (PEngA x X') f1 w w1) : EngA (QR X.src) y E w1 f2 := by
  obtain ⟨_, _, _, _, r⟩ := h1
  exact EngA.framed (QR.framed _) _ _ h.pair.doc r h.apart.2.2.1

set_option maxRecDepth 20000 in
set_option maxHeartbeats 1000000 in
theorem pair_open (g x y : Nat) (X : PEng) (E : Eng) (f1 f2 : List Nat) (i : Nat) (a b c : Int) (s : ByteArray) (w : World) (h : Start g x y X E f1 f2 i w) :
    Calls Tryz.prog 14 #[.pointer (some ⟨g, 0, none⟩), stepV 2 a b c s] w fun e w' => e = .returned (.bool true) ∧ PairTo g i (g :: (f1 ++ f2)) w w' := by
  obtain ⟨hg1, hg2, hd12, hn1, hn2, hl1, hl2⟩ := h.apart
  obtain ⟨good', heq, hh⟩ := good_open h.good
  have hop := h.good.2.opened
  obtain ⟨L, hs⟩ := h.good.1
  have hopn := hs.openedPos
  have hop2 := hs.opened
  have hsm := h.small
  have hwf := h.good.wf (by omega)
  have HPC : Hid (∀ W, Fr [] w W → Calls Tryz.prog 19 #[.pointer (some ⟨x, 0, none⟩)] W fun e w' => e = .returned (.tuple #[.int .i64 (rbeginF E).1.1, .int .i64 (rbeginF E).1.2]) ∧ ATo (PEngA x (popenF X).2) f1 W w') := hid (by
    intro W hW
    obtain ⟨kv, hk⟩ := (h.pair.grown hW).prog
    refine (popen_any x X kv W hk.1 (by simp at hop hop2 hopn; omega)).mono ?_
    rintro e w' ⟨rfl, hp⟩
    exact ⟨by rw [heq], hp.to hk hn1 hh⟩)
  have HDC : Hid (∀ W W1, Fr [] w W → ATo (PEngA x (popenF X).2) f1 W W1 → Calls Tryz.prog 20 #[.pointer (some ⟨y, 0, none⟩)] W1 fun e w' => e = .returned (.tuple #[.int .i64 (rbeginF E).1.1, .int .i64 (rbeginF E).1.2]) ∧ EngTo (QR X.src) y (rbeginF E).2 f2 W1 w') := hid (by
    intro W W1 hW h1
    exact rbegin_any (QR.framed _) (QR.within _) ((h.grown hW).doc h1) hn2 hwf.opnLen (by simp at hop hop2 hopn; omega) hwf.comLen)
  have HFIN : Hid (∀ W W1 W2, Fr [] w W → ATo (PEngA x (popenF X).2) f1 W W1 → EngTo (QR X.src) y (rbeginF E).2 f2 W1 W2 → PairTo g i (g :: (f1 ++ f2)) w W2) := hid (by
    intro W W1 W2 hW h1 h2
    exact ⟨_, pair_close h.pair h.nodup (h1.before hW) h2 (popen_src X), good'⟩)
  have c0 : w.cell? ⟨g, 0, none⟩ = some (.pointer (some ⟨x, 0, none⟩)) := by rw [cell_of_row _ _ _ _ _ _ h.pair.block]; rfl
  have c1 : w.cell? ⟨g, 1, none⟩ = some (.pointer (some ⟨y, 0, none⟩)) := by rw [cell_of_row _ _ _ _ _ _ h.pair.block]; rfl
  have hgl := lt_of_block h.pair.block
  have hgz : g ≠ w.heap.size := by omega
  obtain ⟨r1, hr1⟩ : ∃ r1, r1 = (rbeginF E).1.1 := ⟨_, rfl⟩
  obtain ⟨r2, hr2⟩ : ∃ r2, r2 = (rbeginF E).1.2 := ⟨_, rfl⟩
  rw [← hr1, ← hr2] at HPC HDC
  have q1 : (r1 == r1) = true := by simp
  have q2 : (r2 == r2) = true := by simp
  clear h good' heq hh hop hs hopn hop2 hwf hr1 hr2 hd12
  go_enter Tryz.func14, Tryz.ntmps14
  go_wp2_with fail
  go_at_call 19
  refine (HPC.out _ (fr_alloc w _)).mono ?_
  rintro e w1 ⟨rfl, ht⟩
  have HT := hid ht
  obtain ⟨_, _, _, _, hfr⟩ := ht
  have c1' := keepc hfr (b := g) (i := 1) (v := .pointer (some ⟨y, 0, none⟩)) ((World.cell?_alloc_lt _ _ _ hgl).trans c1) hg1
  clear hfr c1
  go_wp2_with fail
  go_at_call 20
  refine (HDC.out _ _ (fr_alloc w _) HT.out).mono ?_
  rintro e w2 ⟨rfl, ht2⟩
  have HT2 := hid ht2
  clear ht2 c1'
  go_wp2_with (go_at_call 18; refine (num_any _ _).mono ?_; rintro e w' ⟨rfl, rfl⟩)
  go_ret
  exact ⟨rfl, HFIN.out _ _ _ (fr_alloc w _) HT.out HT2.out⟩

end Go.Proofs.YthlhbjnkohinmaaGreat

/- A pair's Put, Clear, Abort. (Written by program: wip/tools/mk_pair3.py.) -/
namespace Go.Proofs.YthlhbjnkohinmaaGreat
open Go.RowKit

theorem Start.docD {g x y : Nat} {X X' : PEng} {E : Eng} {f1 f2 : List Nat} {i : Nat} {w w1 w1' : World} (h : Start g x y X E f1 f2 i w) (h1 : ATo (PEngA x X') f1 w w1) (hf : Fr [] w1 w1') : EngA (QR X.src) y E w1' f2 := EngA.framed (QR.framed _) _ _ (h.doc h1) hf (by simp)

set_option maxRecDepth 20000 in
set_option maxHeartbeats 2000000 in
theorem pair_put (g x y : Nat) (X : PEng) (E : Eng) (f1 f2 : List Nat) (i : Nat) (a b c : Int) (s : ByteArray) (w : World) (h : Start g x y X E f1 f2 i w) (hs63 : s.size < 9223372036854775808) :
    Calls Tryz.prog 14 #[.pointer (some ⟨g, 0, none⟩), stepV 3 a b c s] w fun e w' => e = .returned (.bool true) ∧ PairTo g i (g :: (f1 ++ f2)) w w' := by
  obtain ⟨hg1, hg2, hd12, hn1, hn2, hl1, hl2⟩ := h.apart
  obtain ⟨good', heq, hh⟩ := good_put h.good b s
  have hsm := h.small
  have hwf := h.good.wf (by omega)
  have hwl : ∀ S ∈ E.opn, (S.wr.length + 1) * 24 ≤ 140737488355328 := fun S hS => by have := h.good.2.wrLen S hS; omega
  have HPC : Hid (∀ W, Fr [] w W → Calls Tryz.prog 21 #[.pointer (some ⟨x, 0, none⟩), .int .i64 b, .string s] W fun e w' => e = .returned (.int .i64 (rputF E b s).1) ∧ ATo (PEngA x (pputF X b s).2) f1 W w') := hid (by
    intro W hW
    obtain ⟨kv, hk⟩ := (h.pair.grown hW).prog
    refine (pput_any x X kv b s W hk.1 hs63 (fun k hf => h.good.more h.small hf)).mono ?_
    rintro e w' ⟨rfl, hp⟩
    exact ⟨by rw [heq], hp.to hk hn1 hh⟩)
  have HDC : Hid (∀ W W1 W1', Fr [] w W → ATo (PEngA x (pputF X b s).2) f1 W W1 → Fr [] W1 W1' → Calls Tryz.prog 22 #[.pointer (some ⟨y, 0, none⟩), .int .i64 b, .string s] W1' fun e w' => (e = .returned (.int .i64 (rputF E b s).1) ∧ EngTo (QR X.src) y (rputF E b s).2 f2 W1 w') ∧ Fr f2 W1' w') := hid (by
    intro W W1 W1' hW h1 hf
    refine (rput_any (QR.framed _) (QR.within _) b s ((h.grown hW).docD h1 hf) hn2 hwf.opnLen hs63 hwl).mono ?_
    rintro e w' ⟨rfl, ht⟩
    exact ⟨⟨rfl, ht.before hf⟩, by obtain ⟨_, _, _, _, r⟩ := ht; exact r⟩)
  have HFIN : Hid (∀ W W1 W2, Fr [] w W → ATo (PEngA x (pputF X b s).2) f1 W W1 → EngTo (QR X.src) y (rputF E b s).2 f2 W1 W2 → PairTo g i (g :: (f1 ++ f2)) w W2) := hid (by
    intro W W1 W2 hW h1 h2
    exact ⟨_, pair_close h.pair h.nodup (h1.before hW) h2 (pput_src X b s), good'⟩)
  have c0 : w.cell? ⟨g, 0, none⟩ = some (.pointer (some ⟨x, 0, none⟩)) := by rw [cell_of_row _ _ _ _ _ _ h.pair.block]; rfl
  have c1 : w.cell? ⟨g, 1, none⟩ = some (.pointer (some ⟨y, 0, none⟩)) := by rw [cell_of_row _ _ _ _ _ _ h.pair.block]; rfl
  have hgl := lt_of_block h.pair.block
  have hgz : g ≠ w.heap.size := by omega
  have hz1 : w.heap.size ∉ f1 := fun e => by have := hl1 _ e; omega
  have hz2 : w.heap.size ∉ f2 := fun e => by have := hl2 _ e; omega
  obtain ⟨r1, hr1⟩ : ∃ r1, r1 = (rputF E b s).1 := ⟨_, rfl⟩
  rw [← hr1] at HPC HDC
  have q1 : (r1 == r1) = true := by simp
  clear h good' heq hh hwf hwl hr1 hd12 hl1 hl2
  go_enter Tryz.func14, Tryz.ntmps14
  go_wp2_with fail
  go_region_held3 (fun W => W.cell? ⟨g, 0, none⟩ = some (.pointer (some ⟨x, 0, none⟩)) ∧ W.cell? ⟨w.heap.size, 2, none⟩ = some (.int .i64 b) ∧ W.cell? ⟨w.heap.size, 4, none⟩ = some (.string s)) (first | go_keep | (exact ⟨k0, k2, k4⟩)) (first
      | (go_at_call 21
         refine (HPC.out _ (fr_drew (fr_alloc w _))).mono ?_
         rintro e w1 ⟨rfl, ht⟩
         have HT := hid ht
         obtain ⟨_, _, _, _, hfr⟩ := ht
         have k0 := keepc hfr (keep0 (fr_drew (fr_alloc w _)) c0) hg1
         have k1 := keepc hfr (keep0 (fr_drew (fr_alloc w _)) c1) hg1
         have k2 := keepc hfr (keep0 (fr_drew (Fr.refl _ _)) (cell_new (w := w) (cs := #[.int .i64 3, .int .i64 a, .int .i64 b, .int .i64 c, .string s]) (t := 30) (j := 2) rfl)) hz1
         have k4 := keepc hfr (keep0 (fr_drew (Fr.refl _ _)) (cell_new (w := w) (cs := #[.int .i64 3, .int .i64 a, .int .i64 b, .int .i64 c, .string s]) (t := 30) (j := 4) rfl)) hz1
         clear hfr))
  go_wp2_with fail
  go_region_held3 (fun W => W.cell? ⟨g, 1, none⟩ = some (.pointer (some ⟨y, 0, none⟩)) ∧ W.cell? ⟨w.heap.size, 2, none⟩ = some (.int .i64 b) ∧ W.cell? ⟨w.heap.size, 4, none⟩ = some (.string s)) (first | go_keep | (exact ⟨m1, m2, m4⟩)) (first
      | (go_at_call 22
         refine (HDC.out _ _ _ (fr_drew (fr_alloc w _)) HT.out (fr_drew (Fr.refl _ _))).mono ?_
         rintro e w2 ⟨⟨rfl, ht2⟩, hfr⟩
         have HT2 := hid ht2
         have m1 := keepc hfr (keep0 (fr_drew (Fr.refl _ _)) k1) hg2
         have m2 := keepc hfr (keep0 (fr_drew (Fr.refl _ _)) k2) hz2
         have m4 := keepc hfr (keep0 (fr_drew (Fr.refl _ _)) k4) hz2
         clear hfr ht2))
  go_wp2_with (go_at_call 18; refine (num_any _ _).mono ?_; rintro e w' ⟨rfl, rfl⟩)
  go_ret
  exact ⟨rfl, HFIN.out _ _ _ (fr_drew (fr_alloc w _)) HT.out HT2.out⟩

set_option maxRecDepth 20000 in
set_option maxHeartbeats 2000000 in
theorem pair_clear (g x y : Nat) (X : PEng) (E : Eng) (f1 f2 : List Nat) (i : Nat) (a b c : Int) (s : ByteArray) (w : World) (h : Start g x y X E f1 f2 i w) (hs63 : s.size < 9223372036854775808) :
    Calls Tryz.prog 14 #[.pointer (some ⟨g, 0, none⟩), stepV 4 a b c s] w fun e w' => e = .returned (.bool true) ∧ PairTo g i (g :: (f1 ++ f2)) w w' := by
  obtain ⟨hg1, hg2, hd12, hn1, hn2, hl1, hl2⟩ := h.apart
  obtain ⟨good', heq, hh⟩ := good_clear h.good b s
  have hsm := h.small
  have hwf := h.good.wf (by omega)
  have hwl : ∀ S ∈ E.opn, (S.wr.length + 1) * 24 ≤ 140737488355328 := fun S hS => by have := h.good.2.wrLen S hS; omega
  have HPC : Hid (∀ W, Fr [] w W → Calls Tryz.prog 23 #[.pointer (some ⟨x, 0, none⟩), .int .i64 b, .string s] W fun e w' => e = .returned (.int .i64 (rclearF E b s).1) ∧ ATo (PEngA x (pclearF X b s).2) f1 W w') := hid (by
    intro W hW
    obtain ⟨kv, hk⟩ := (h.pair.grown hW).prog
    refine (pclear_any x X kv b s W hk.1 hs63 (fun k hf => h.good.more h.small hf)).mono ?_
    rintro e w' ⟨rfl, hp⟩
    exact ⟨by rw [heq], hp.to hk hn1 hh⟩)
  have HDC : Hid (∀ W W1 W1', Fr [] w W → ATo (PEngA x (pclearF X b s).2) f1 W W1 → Fr [] W1 W1' → Calls Tryz.prog 24 #[.pointer (some ⟨y, 0, none⟩), .int .i64 b, .string s] W1' fun e w' => (e = .returned (.int .i64 (rclearF E b s).1) ∧ EngTo (QR X.src) y (rclearF E b s).2 f2 W1 w') ∧ Fr f2 W1' w') := hid (by
    intro W W1 W1' hW h1 hf
    refine (rclear_any (QR.framed _) (QR.within _) b s ((h.grown hW).docD h1 hf) hn2 hwf.opnLen hs63 hwl).mono ?_
    rintro e w' ⟨rfl, ht⟩
    exact ⟨⟨rfl, ht.before hf⟩, by obtain ⟨_, _, _, _, r⟩ := ht; exact r⟩)
  have HFIN : Hid (∀ W W1 W2, Fr [] w W → ATo (PEngA x (pclearF X b s).2) f1 W W1 → EngTo (QR X.src) y (rclearF E b s).2 f2 W1 W2 → PairTo g i (g :: (f1 ++ f2)) w W2) := hid (by
    intro W W1 W2 hW h1 h2
    exact ⟨_, pair_close h.pair h.nodup (h1.before hW) h2 (pclear_src X b s), good'⟩)
  have c0 : w.cell? ⟨g, 0, none⟩ = some (.pointer (some ⟨x, 0, none⟩)) := by rw [cell_of_row _ _ _ _ _ _ h.pair.block]; rfl
  have c1 : w.cell? ⟨g, 1, none⟩ = some (.pointer (some ⟨y, 0, none⟩)) := by rw [cell_of_row _ _ _ _ _ _ h.pair.block]; rfl
  have hgl := lt_of_block h.pair.block
  have hgz : g ≠ w.heap.size := by omega
  have hz1 : w.heap.size ∉ f1 := fun e => by have := hl1 _ e; omega
  have hz2 : w.heap.size ∉ f2 := fun e => by have := hl2 _ e; omega
  obtain ⟨r1, hr1⟩ : ∃ r1, r1 = (rclearF E b s).1 := ⟨_, rfl⟩
  rw [← hr1] at HPC HDC
  have q1 : (r1 == r1) = true := by simp
  clear h good' heq hh hwf hwl hr1 hd12 hl1 hl2
  go_enter Tryz.func14, Tryz.ntmps14
  go_wp2_with fail
  go_region_held3 (fun W => W.cell? ⟨g, 0, none⟩ = some (.pointer (some ⟨x, 0, none⟩)) ∧ W.cell? ⟨w.heap.size, 2, none⟩ = some (.int .i64 b) ∧ W.cell? ⟨w.heap.size, 4, none⟩ = some (.string s)) (first | go_keep | (exact ⟨k0, k2, k4⟩)) (first
      | (go_at_call 23
         refine (HPC.out _ (fr_drew (fr_alloc w _))).mono ?_
         rintro e w1 ⟨rfl, ht⟩
         have HT := hid ht
         obtain ⟨_, _, _, _, hfr⟩ := ht
         have k0 := keepc hfr (keep0 (fr_drew (fr_alloc w _)) c0) hg1
         have k1 := keepc hfr (keep0 (fr_drew (fr_alloc w _)) c1) hg1
         have k2 := keepc hfr (keep0 (fr_drew (Fr.refl _ _)) (cell_new (w := w) (cs := #[.int .i64 4, .int .i64 a, .int .i64 b, .int .i64 c, .string s]) (t := 30) (j := 2) rfl)) hz1
         have k4 := keepc hfr (keep0 (fr_drew (Fr.refl _ _)) (cell_new (w := w) (cs := #[.int .i64 4, .int .i64 a, .int .i64 b, .int .i64 c, .string s]) (t := 30) (j := 4) rfl)) hz1
         clear hfr))
  go_wp2_with fail
  go_region_held3 (fun W => W.cell? ⟨g, 1, none⟩ = some (.pointer (some ⟨y, 0, none⟩)) ∧ W.cell? ⟨w.heap.size, 2, none⟩ = some (.int .i64 b) ∧ W.cell? ⟨w.heap.size, 4, none⟩ = some (.string s)) (first | go_keep | (exact ⟨m1, m2, m4⟩)) (first
      | (go_at_call 24
         refine (HDC.out _ _ _ (fr_drew (fr_alloc w _)) HT.out (fr_drew (Fr.refl _ _))).mono ?_
         rintro e w2 ⟨⟨rfl, ht2⟩, hfr⟩
         have HT2 := hid ht2
         have m1 := keepc hfr (keep0 (fr_drew (Fr.refl _ _)) k1) hg2
         have m2 := keepc hfr (keep0 (fr_drew (Fr.refl _ _)) k2) hz2
         have m4 := keepc hfr (keep0 (fr_drew (Fr.refl _ _)) k4) hz2
         clear hfr ht2))
  go_wp2_with (go_at_call 18; refine (num_any _ _).mono ?_; rintro e w' ⟨rfl, rfl⟩)
  go_ret
  exact ⟨rfl, HFIN.out _ _ _ (fr_drew (fr_alloc w _)) HT.out HT2.out⟩

set_option maxRecDepth 20000 in
set_option maxHeartbeats 2000000 in
theorem pair_abort (g x y : Nat) (X : PEng) (E : Eng) (f1 f2 : List Nat) (i : Nat) (a b c : Int) (s : ByteArray) (w : World) (h : Start g x y X E f1 f2 i w) :
    Calls Tryz.prog 14 #[.pointer (some ⟨g, 0, none⟩), stepV 6 a b c s] w fun e w' => e = .returned (.bool true) ∧ PairTo g i (g :: (f1 ++ f2)) w w' := by
  obtain ⟨hg1, hg2, hd12, hn1, hn2, hl1, hl2⟩ := h.apart
  obtain ⟨good', heq, hh⟩ := good_abort h.good b
  have hsm := h.small
  have hwf := h.good.wf (by omega)
  have hwl : ∀ S ∈ E.opn, (S.wr.length + 1) * 24 ≤ 140737488355328 := fun S hS => by have := h.good.2.wrLen S hS; omega
  have HPC : Hid (∀ W, Fr [] w W → Calls Tryz.prog 27 #[.pointer (some ⟨x, 0, none⟩), .int .i64 b] W fun e w' => e = .returned (.int .i64 (rabortF E b).1) ∧ ATo (PEngA x (pabortF X b).2) f1 W w') := hid (by
    intro W hW
    obtain ⟨kv, hk⟩ := (h.pair.grown hW).prog
    refine (pabort_any x X kv b W hk.1).mono ?_
    rintro e w' ⟨rfl, hp⟩
    exact ⟨by rw [heq], hp.to hk hn1 hh⟩)
  have HDC : Hid (∀ W W1 W1', Fr [] w W → ATo (PEngA x (pabortF X b).2) f1 W W1 → Fr [] W1 W1' → Calls Tryz.prog 28 #[.pointer (some ⟨y, 0, none⟩), .int .i64 b] W1' fun e w' => (e = .returned (.int .i64 (rabortF E b).1) ∧ EngTo (QR X.src) y (rabortF E b).2 f2 W1 w') ∧ Fr f2 W1' w') := hid (by
    intro W W1 W1' hW h1 hf
    refine (rabort_any (QR.framed _) (QR.within _) b ((h.grown hW).docD h1 hf) hn2 hwf.opnLen).mono ?_
    rintro e w' ⟨rfl, ht⟩
    exact ⟨⟨rfl, ht.before hf⟩, by obtain ⟨_, _, _, _, r⟩ := ht; exact r⟩)
  have HFIN : Hid (∀ W W1 W2, Fr [] w W → ATo (PEngA x (pabortF X b).2) f1 W W1 → EngTo (QR X.src) y (rabortF E b).2 f2 W1 W2 → PairTo g i (g :: (f1 ++ f2)) w W2) := hid (by
    intro W W1 W2 hW h1 h2
    exact ⟨_, pair_close h.pair h.nodup (h1.before hW) h2 (pabort_src X b), good'⟩)
  have c0 : w.cell? ⟨g, 0, none⟩ = some (.pointer (some ⟨x, 0, none⟩)) := by rw [cell_of_row _ _ _ _ _ _ h.pair.block]; rfl
  have c1 : w.cell? ⟨g, 1, none⟩ = some (.pointer (some ⟨y, 0, none⟩)) := by rw [cell_of_row _ _ _ _ _ _ h.pair.block]; rfl
  have hgl := lt_of_block h.pair.block
  have hgz : g ≠ w.heap.size := by omega
  have hz1 : w.heap.size ∉ f1 := fun e => by have := hl1 _ e; omega
  have hz2 : w.heap.size ∉ f2 := fun e => by have := hl2 _ e; omega
  obtain ⟨r1, hr1⟩ : ∃ r1, r1 = (rabortF E b).1 := ⟨_, rfl⟩
  rw [← hr1] at HPC HDC
  have q1 : (r1 == r1) = true := by simp
  clear h good' heq hh hwf hwl hr1 hd12 hl1 hl2
  go_enter Tryz.func14, Tryz.ntmps14
  go_wp2_with fail
  go_region_held3 (fun W => W.cell? ⟨g, 0, none⟩ = some (.pointer (some ⟨x, 0, none⟩)) ∧ W.cell? ⟨w.heap.size, 2, none⟩ = some (.int .i64 b)) (first | go_keep | (exact ⟨k0, k2⟩)) (first
      | (go_at_call 27
         refine (HPC.out _ (fr_drew (fr_alloc w _))).mono ?_
         rintro e w1 ⟨rfl, ht⟩
         have HT := hid ht
         obtain ⟨_, _, _, _, hfr⟩ := ht
         have k0 := keepc hfr (keep0 (fr_drew (fr_alloc w _)) c0) hg1
         have k1 := keepc hfr (keep0 (fr_drew (fr_alloc w _)) c1) hg1
         have k2 := keepc hfr (keep0 (fr_drew (Fr.refl _ _)) (cell_new (w := w) (cs := #[.int .i64 6, .int .i64 a, .int .i64 b, .int .i64 c, .string s]) (t := 30) (j := 2) rfl)) hz1
         clear hfr))
  go_wp2_with fail
  go_region_held3 (fun W => W.cell? ⟨g, 1, none⟩ = some (.pointer (some ⟨y, 0, none⟩)) ∧ W.cell? ⟨w.heap.size, 2, none⟩ = some (.int .i64 b)) (first | go_keep | (exact ⟨m1, m2⟩)) (first
      | (go_at_call 28
         refine (HDC.out _ _ _ (fr_drew (fr_alloc w _)) HT.out (fr_drew (Fr.refl _ _))).mono ?_
         rintro e w2 ⟨⟨rfl, ht2⟩, hfr⟩
         have HT2 := hid ht2
         have m1 := keepc hfr (keep0 (fr_drew (Fr.refl _ _)) k1) hg2
         have m2 := keepc hfr (keep0 (fr_drew (Fr.refl _ _)) k2) hz2
         clear hfr ht2))
  go_wp2_with (go_at_call 18; refine (num_any _ _).mono ?_; rintro e w' ⟨rfl, rfl⟩)
  go_ret
  exact ⟨rfl, HFIN.out _ _ _ (fr_drew (fr_alloc w _)) HT.out HT2.out⟩

end Go.Proofs.YthlhbjnkohinmaaGreat

/- A pair's View; all that a pair's sessions do. -/
namespace Go.Proofs.YthlhbjnkohinmaaGreat
open Go.RowKit

set_option maxRecDepth 20000 in
set_option maxHeartbeats 2000000 in
theorem pair_view (g x y : Nat) (X : PEng) (E : Eng) (f1 f2 : List Nat) (i : Nat) (a b c : Int) (s : ByteArray) (w : World) (h : Start g x y X E f1 f2 i w) :
    Calls Tryz.prog 14 #[.pointer (some ⟨g, 0, none⟩), stepV 5 a b c s] w fun e w' => e = .returned (.bool true) ∧ PairTo g i (g :: (f1 ++ f2)) w w' := by
  obtain ⟨hg1, hg2, hd12, hn1, hn2, hl1, hl2⟩ := h.apart
  have hsm := h.small
  have hwf := h.good.wf (by omega)
  obtain ⟨L, hs⟩ := h.good.1
  have hview := hs.view b
  have hhl := h.good.2.hist
  have HPC : Hid (∀ W, Fr [] w W → Calls Tryz.prog 25 #[.pointer (some ⟨x, 0, none⟩), .int .i64 b] W fun e w' => e = .returned (.tuple #[.string (pviewF X b).1, .int .i64 (pviewF X b).2]) ∧ Fr [] W w') := hid (by
    intro W hW
    obtain ⟨kv, hk⟩ := (h.pair.grown hW).prog
    refine (pview_any x X kv b W hk.1 hk.rows (fun c _ => by have := hhl c; simp at this; omega) (fun k hf => h.good.digs (by omega) hf)).mono ?_
    rintro e w' ⟨rfl, hg⟩
    exact ⟨rfl, fr_none hg⟩)
  have HDC : Hid (∀ W, Fr [] w W → Calls Tryz.prog 26 #[.pointer (some ⟨y, 0, none⟩), .int .i64 b] W fun e w' => e = .returned (.tuple #[.string (pviewF X b).1, .int .i64 (pviewF X b).2]) ∧ Fr [] W w') := hid (by
    intro W hW
    refine (rview_any (QR X.src) y E f2 b W (h.pair.grown hW).doc hwf).mono ?_
    rintro e w' ⟨rfl, hg⟩
    refine ⟨?_, fr_none hg⟩
    rw [hview]
    cases findS E.opn b <;> rfl)
  have HFIN : Hid (∀ W, Fr [] w W → PairTo g i (g :: (f1 ++ f2)) w W) := hid (by
    intro W hW
    exact ⟨(X, E), ⟨_, ⟨g, x, y, f1, f2, rfl, h.pair.grown hW, rfl⟩, h.nodup, fun _ hx => .inl hx, hW.mono (fun k hk => by cases hk)⟩, h.good.mono (Nat.le_succ i)⟩)
  have c0 : w.cell? ⟨g, 0, none⟩ = some (.pointer (some ⟨x, 0, none⟩)) := by rw [cell_of_row _ _ _ _ _ _ h.pair.block]; rfl
  have c1 : w.cell? ⟨g, 1, none⟩ = some (.pointer (some ⟨y, 0, none⟩)) := by rw [cell_of_row _ _ _ _ _ _ h.pair.block]; rfl
  have hgl := lt_of_block h.pair.block
  have hgz : g ≠ w.heap.size := by omega
  obtain ⟨r1, hr1⟩ : ∃ r1, r1 = (pviewF X b).1 := ⟨_, rfl⟩
  obtain ⟨r2, hr2⟩ : ∃ r2, r2 = (pviewF X b).2 := ⟨_, rfl⟩
  rw [← hr1, ← hr2] at HPC HDC
  have q1 : (r1.toList == r1.toList) = true := by simp
  have q2 : (r2 == r2) = true := by simp
  clear h hs hview hhl hwf hr1 hr2 hd12 hl1 hl2
  go_enter Tryz.func14, Tryz.ntmps14
  go_wp2_with fail
  go_region_held3 (fun W => W.cell? ⟨g, 0, none⟩ = some (.pointer (some ⟨x, 0, none⟩)) ∧ W.cell? ⟨w.heap.size, 2, none⟩ = some (.int .i64 b)) (first | go_keep | (exact ⟨k0, k2⟩)) (first
      | (go_at_call 25
         refine (HPC.out _ (fr_drew (fr_alloc w _))).mono ?_
         rintro e w1 ⟨rfl, hfr⟩
         have HT := hid ((fr_drew (fr_alloc w (stepC 5 a b c s))).trans hfr)
         have k0 := keepc hfr (keep0 (fr_drew (fr_alloc w _)) c0) (by simp)
         have k1 := keepc hfr (keep0 (fr_drew (fr_alloc w _)) c1) (by simp)
         have k2 := keepc hfr (keep0 (fr_drew (Fr.refl _ _)) (cell_new (w := w) (cs := #[.int .i64 5, .int .i64 a, .int .i64 b, .int .i64 c, .string s]) (t := 30) (j := 2) rfl)) (by simp)
         clear hfr))
  go_wp2_with fail
  go_region_held3 (fun W => W.cell? ⟨g, 1, none⟩ = some (.pointer (some ⟨y, 0, none⟩)) ∧ W.cell? ⟨w.heap.size, 2, none⟩ = some (.int .i64 b)) (first | go_keep | (exact ⟨m1, m2⟩)) (first
      | (go_at_call 26
         refine (HDC.out _ (fr_drew HT.out)).mono ?_
         rintro e w2 ⟨rfl, hfr⟩
         have HT2 := hid ((fr_drew HT.out).trans hfr)
         have m1 := keepc hfr (keep0 (fr_drew (Fr.refl _ _)) k1) (by simp)
         have m2 := keepc hfr (keep0 (fr_drew (Fr.refl _ _)) k2) (by simp)
         clear hfr))
  go_wp2_with (go_at_call 18; refine (num_any _ _).mono ?_; rintro e w' ⟨rfl, rfl⟩)
  go_ret
  exact ⟨rfl, HFIN.out _ HT2.out⟩

/-- All that a pair's sessions do. -/
theorem pair_sessions (g x y : Nat) (X : PEng) (E : Eng) (f1 f2 : List Nat) (i : Nat) (k a b c : Int) (s : ByteArray) (w : World) (h : Start g x y X E f1 f2 i w) (hs63 : s.size < 9223372036854775808) (hk : 2 ≤ k) (hk2 : k ≤ 6) :
    Calls Tryz.prog 14 #[.pointer (some ⟨g, 0, none⟩), stepV k a b c s] w fun e w' => e = .returned (.bool true) ∧ PairTo g i (g :: (f1 ++ f2)) w w' := by
  have e : k = 2 ∨ k = 3 ∨ k = 4 ∨ k = 5 ∨ k = 6 := by omega
  rcases e with rfl | rfl | rfl | rfl | rfl
  · exact pair_open g x y X E f1 f2 i a b c s w h
  · exact pair_put g x y X E f1 f2 i a b c s w h hs63
  · exact pair_clear g x y X E f1 f2 i a b c s w h hs63
  · exact pair_view g x y X E f1 f2 i a b c s w h
  · exact pair_abort g x y X E f1 f2 i a b c s w h

end Go.Proofs.YthlhbjnkohinmaaGreat

/- A pair's Commit. -/
namespace Go.Proofs.YthlhbjnkohinmaaGreat
open Go.RowKit

theorem newest_mem {wr : List Wr} {q : Wr} (h : q ∈ newest wr) : q ∈ wr := by
  unfold newest newestN at h
  rw [List.mem_filterMap] at h
  obtain ⟨c, _, hn⟩ := h
  unfold newestAt at hn
  cases h1 : lastI (cellT c) wr with
  | none => rw [h1] at hn; cases hn
  | some k =>
    rw [h1] at hn
    have hk := lastI_lt h1
    simp only [Option.map_some, Option.some.injEq] at hn
    rw [← hn]
    simp [List.getD, hk]
theorem commit_hist_le (X : PEng) (n : Int) (c : Nat) : ((pcommitF X n).2.hist c).length ≤ (X.hist c).length + 1 := by
  unfold pcommitF
  cases findP X n with
  | none => exact Nat.le_succ _
  | some k =>
    simp only []
    cases hasW (X.ses k) with
    | false => exact Nat.le_succ _
    | true =>
      cases clash X (X.ses k) with
      | true => exact Nat.le_succ _
      | false =>
        show (match (X.ses k).wr c with | some v => X.hist c ++ [(X.latest + 1, v)] | none => X.hist c).length ≤ _
        cases (X.ses k).wr c with
        | none => exact Nat.le_succ _
        | some v => simp
theorem good_commit {i : Nat} {X : PEng} {E : Eng} (h : Good i (X, E)) (n : Int) (hk : E.kept.length + 60 ≤ 999) : Good (i + 1) ((pcommitF X n).2, (rcommitF E n).2) ∧ (pcommitF X n).1 = (rcommitF E n).1 := by
  obtain ⟨⟨L, hs⟩, hb⟩ := h
  obtain ⟨h1, h2⟩ := hs.commit n
  have hh : ∀ c, ((pcommitF X n).2.hist c).length ≤ i + 1 := fun c => by
    have a1 := commit_hist_le X n c
    have a2 := hb.hist c
    simp only at a2
    omega
  refine ⟨⟨h2, ?_⟩, h1⟩
  show Bnd (i + 1) (pcommitF X n).2 (rcommitF E n).2
  have b := hb.mono (Nat.le_succ i)
  unfold rcommitF
  cases hf : findS E.opn n with
  | none => exact ⟨b.room, b.opened, b.wrLen, b.wrVal, b.comLen, b.comEach, b.comVal, b.kept, hh⟩
  | some S =>
    have hS : S ∈ E.opn := List.mem_of_find?_eq_some hf
    simp only []
    cases rclash E S with
    | true => exact bnd_end b n hh
    | false =>
      cases he : (newest S.wr).isEmpty with
      | true => exact bnd_end b n hh
      | false =>
        have hl : (newest S.wr).length ≤ 60 := newestN_le _ 60
        have hc : Bnd (i + 1) X (E.commit (newest S.wr)) := by
          refine ⟨b.room, b.opened, b.wrLen, b.wrVal, ?_, fun l hlm => ?_, fun l hlm => ?_, ?_, b.hist⟩
          · have := hb.comLen
            simp only at this
            simp [Eng.commit]
            omega
          · simp only [Eng.commit, List.mem_append, List.mem_singleton] at hlm
            rcases hlm with hlm | rfl
            · exact b.comEach l hlm
            · exact hl
          · simp only [Eng.commit, List.mem_append, List.mem_singleton] at hlm
            rcases hlm with hlm | rfl
            · exact b.comVal l hlm
            · intro q hq
              exact b.wrVal S hS q (newest_mem hq)
          · simp [Eng.commit]
            omega
        exact bnd_end hc n hh

set_option maxRecDepth 20000 in
set_option maxHeartbeats 2000000 in
theorem pair_commit (g x y : Nat) (X : PEng) (E : Eng) (f1 f2 : List Nat) (i : Nat) (a b c : Int) (s : ByteArray) (w : World) (h : Start g x y X E f1 f2 i w) (hkept : E.kept.length + 60 ≤ 999) :
    Calls Tryz.prog 15 #[.pointer (some ⟨g, 0, none⟩), stepV 7 a b c s] w fun e w' => e = .returned (.bool true) ∧ PairTo g i (g :: (f1 ++ f2)) w w' := by
  obtain ⟨hg1, hg2, hd12, hn1, hn2, hl1, hl2⟩ := h.apart
  obtain ⟨good', heq⟩ := good_commit h.good b hkept
  have hsm := h.small
  have hwf := h.good.wf (by omega)
  obtain ⟨L, hs⟩ := h.good.1
  have hlat := hs.latest
  have hcl := h.good.2.comLen
  have hhl := h.good.2.hist
  have hroom := h.good.2.room
  simp only at hlat hcl hhl hroom
  have HPC : Hid (∀ W, Fr [] w W → Calls Tryz.prog 29 #[.pointer (some ⟨x, 0, none⟩), .int .i64 b] W fun e w' => e = .returned (.tuple #[.int .i64 (rcommitF E b).1.1, .int .i64 (rcommitF E b).1.2]) ∧ ATo (PEngA x (pcommitF X b).2) f1 W w') := hid (by
    intro W hW
    refine (pcommit_any x X f1 b W (h.pair.grown hW).prog hn1 (by omega) (fun c _ => by have := hhl c; omega) (fun k _ => by have := hs.kept; have := hs.room; have := writN_le (X.ses k) 60; simp only at *; omega) (by have := hs.room; simp only at this; omega)).mono ?_
    rintro e w' ⟨rfl, hp⟩
    exact ⟨by rw [heq], hp⟩)
  have HDC : Hid (∀ W W1 W1', Fr [] w W → ATo (PEngA x (pcommitF X b).2) f1 W W1 → Fr [] W1 W1' → Calls Tryz.prog 30 #[.pointer (some ⟨y, 0, none⟩), .int .i64 b] W1' fun e w' => (e = .returned (.tuple #[.int .i64 (rcommitF E b).1.1, .int .i64 (rcommitF E b).1.2]) ∧ EngTo (QR X.src) y (rcommitF E b).2 f2 W1 w') ∧ Fr f2 W1' w') := hid (by
    intro W W1 W1' hW h1 hf
    refine (rcommit_any (QR.framed _) (QR.within _) b ((h.grown hW).docD h1 hf) hn2 hwf hroom hkept (by omega)).mono ?_
    rintro e w' ⟨rfl, ht⟩
    exact ⟨⟨rfl, ht.before hf⟩, by obtain ⟨_, _, _, _, r⟩ := ht; exact r⟩)
  have HFIN : Hid (∀ W W1 W2, Fr [] w W → ATo (PEngA x (pcommitF X b).2) f1 W W1 → EngTo (QR X.src) y (rcommitF E b).2 f2 W1 W2 → PairTo g i (g :: (f1 ++ f2)) w W2) := hid (by
    intro W W1 W2 hW h1 h2
    exact ⟨_, pair_close h.pair h.nodup (h1.before hW) h2 (pcommit_src X b), good'⟩)
  have c0 : w.cell? ⟨g, 0, none⟩ = some (.pointer (some ⟨x, 0, none⟩)) := by rw [cell_of_row _ _ _ _ _ _ h.pair.block]; rfl
  have c1 : w.cell? ⟨g, 1, none⟩ = some (.pointer (some ⟨y, 0, none⟩)) := by rw [cell_of_row _ _ _ _ _ _ h.pair.block]; rfl
  have hgl := lt_of_block h.pair.block
  have hgz : g ≠ w.heap.size := by omega
  have hz1 : w.heap.size ∉ f1 := fun e => by have := hl1 _ e; omega
  have hz2 : w.heap.size ∉ f2 := fun e => by have := hl2 _ e; omega
  obtain ⟨r1, hr1⟩ : ∃ r1, r1 = (rcommitF E b).1.1 := ⟨_, rfl⟩
  obtain ⟨r2, hr2⟩ : ∃ r2, r2 = (rcommitF E b).1.2 := ⟨_, rfl⟩
  rw [← hr1, ← hr2] at HPC HDC
  have q1 : (r1 == r1) = true := by simp
  have q2 : (r2 == r2) = true := by simp
  clear h good' heq hwf hr1 hr2 hd12 hl1 hl2 hs hlat hcl hhl hroom hkept
  go_enter Tryz.func15, Tryz.ntmps15
  go_wp2_with fail
  go_region_held3 (fun W => W.cell? ⟨g, 0, none⟩ = some (.pointer (some ⟨x, 0, none⟩)) ∧ W.cell? ⟨w.heap.size, 2, none⟩ = some (.int .i64 b)) (first | go_keep | (exact ⟨k0, k2⟩)) (first
      | (go_at_call 29
         refine (HPC.out _ (fr_drew (fr_alloc w _))).mono ?_
         rintro e w1 ⟨rfl, ht⟩
         have HT := hid ht
         obtain ⟨_, _, _, _, hfr⟩ := ht
         have k0 := keepc hfr (keep0 (fr_drew (fr_alloc w _)) c0) hg1
         have k1 := keepc hfr (keep0 (fr_drew (fr_alloc w _)) c1) hg1
         have k2 := keepc hfr (keep0 (fr_drew (Fr.refl _ _)) (cell_new (w := w) (cs := #[.int .i64 7, .int .i64 a, .int .i64 b, .int .i64 c, .string s]) (t := 30) (j := 2) rfl)) hz1
         clear hfr))
  go_wp2_with fail
  go_region_held3 (fun W => W.cell? ⟨g, 1, none⟩ = some (.pointer (some ⟨y, 0, none⟩)) ∧ W.cell? ⟨w.heap.size, 2, none⟩ = some (.int .i64 b)) (first | go_keep | (exact ⟨m1, m2⟩)) (first
      | (go_at_call 30
         refine (HDC.out _ _ _ (fr_drew (fr_alloc w _)) HT.out (fr_drew (Fr.refl _ _))).mono ?_
         rintro e w2 ⟨⟨rfl, ht2⟩, hfr⟩
         have HT2 := hid ht2
         have m1 := keepc hfr (keep0 (fr_drew (Fr.refl _ _)) k1) hg2
         have m2 := keepc hfr (keep0 (fr_drew (Fr.refl _ _)) k2) hz2
         clear hfr ht2))
  go_wp2_with (go_at_call 18; refine (num_any _ _).mono ?_; rintro e w' ⟨rfl, rfl⟩)
  go_ret
  exact ⟨rfl, HFIN.out _ _ _ (fr_drew (fr_alloc w _)) HT.out HT2.out⟩

end Go.Proofs.YthlhbjnkohinmaaGreat
