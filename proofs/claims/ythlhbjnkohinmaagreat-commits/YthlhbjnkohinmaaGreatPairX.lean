import Derived.Test.YthlhbjnkohinmaaGreatPmem
import Derived.Test.YthlhbjnkohinmaaGreatSim
import Derived.Test.YthlhbjnkohinmaaGreatFrz
/- An engine of the program's beside the document's, in memory. -/
namespace Go.Proofs.YthlhbjnkohinmaaGreat
open Go.RowKit

theorem EngA.within {Q : Value → Asn} (hQ : ∀ v, Within (Q v)) (y : Nat) (E : Eng) : Within (EngA Q y E) := by
  rintro w f ⟨rv, cv, kv, ov, cs, ps, h⟩
  exact Star.within (BlockA.within _ _ _) (Star.within (hQ rv) (Star.within (RowA.within _ _ _ _ _) (Star.within (EachA.within (fun _ _ => RowA.within _ _ _ _ _) _ _) (Star.within (RowA.within _ _ _ _ _) (Star.within (RowA.within _ _ _ _ _) (EachA.within SesA.within _ _)))))) h

/-- A pair: block g names both engines. -/
structure PairAt (g x y : Nat) (X : PEng) (E : Eng) (w : World) (f1 f2 : List Nat) : Prop where
  block : w.heap[g]? = some (.cells #[.pointer (some ⟨x, 0, none⟩), .pointer (some ⟨y, 0, none⟩)] 44 (0, 0))
  prog : PEngA x X w f1
  doc : EngA (QR X.src) y E w f2
  read : ReadAns X.src.2.1 0 0 (some X.src.2.2)
def PairA (u : Value) (q : PEng × Eng) : Asn := fun w f => ∃ g x y f1 f2, u = .pointer (some ⟨g, 0, none⟩) ∧ PairAt g x y q.1 q.2 w f1 f2 ∧ f = g :: (f1 ++ f2)
theorem PairA.framed (u : Value) (q : PEng × Eng) : Framed (PairA u q) := by
  rintro S w w' f ⟨g, x, y, f1, f2, e, ⟨h1, h2, h3, h4⟩, rfl⟩ hf hs
  exact ⟨g, x, y, f1, f2, e, ⟨(hf.block g (lt_of_block h1) (hs g (by simp))).trans h1, PEngA.framed _ _ h2 hf (fun k hk => hs k (by simp [hk])), EngA.framed (QR.framed _) _ _ h3 hf (fun k hk => hs k (by simp [hk])), h4⟩, rfl⟩
theorem PairA.within (u : Value) (q : PEng × Eng) : Within (PairA u q) := by
  rintro w f ⟨g, x, y, f1, f2, e, ⟨h1, h2, h3, _⟩, rfl⟩ k hk
  rcases List.mem_cons.mp hk with rfl | hk
  · exact lt_of_block h1
  · rcases List.mem_append.mp hk with hk | hk
    · exact PEngA.within _ _ h2 k hk
    · exact EngA.within (QR.within _) _ _ h3 k hk

/-- Both behind their calls: the pair behind both. -/
theorem pair_close {g x y : Nat} {X X' : PEng} {E E' : Eng} {w w1 w2 : World} {f1 f2 : List Nat} (h : PairAt g x y X E w f1 f2) (hn : (g :: (f1 ++ f2)).Nodup) (h1 : ATo (PEngA x X') f1 w w1) (h2 : EngTo (QR X.src) y E' f2 w1 w2) (hr : X'.src = X.src) :
    ATo (PairA (.pointer (some ⟨g, 0, none⟩)) (X', E')) (g :: (f1 ++ f2)) w w2 := by
  obtain ⟨f1', a1, n1, s1, r1⟩ := h1
  obtain ⟨f2', a2, n2, s2, r2⟩ := h2
  have wi1 := PEngA.within _ _ h.prog
  have wi2 := EngA.within (QR.within _) _ _ h.doc
  have wg := lt_of_block h.block
  have hsz := r1.size
  rw [List.nodup_cons, List.nodup_append] at hn
  obtain ⟨ng, nf1, nf2, nd⟩ := hn
  have hg1 : g ∉ f1 := fun e => ng (by simp [e])
  have hg2 : g ∉ f2 := fun e => ng (by simp [e])
  have d1 : ∀ k ∈ f1', k ∉ f2 := by
    intro k hk hk2
    rcases s1 k hk with h | h
    · exact nd k h k hk2 rfl
    · have := wi2 k hk2; omega
  have w1l := PEngA.within _ _ a1
  refine ⟨g :: (f1' ++ f2'), ⟨g, x, y, f1', f2', rfl, ⟨?_, PEngA.framed _ _ a1 r2 d1, by rw [hr]; exact a2, by rw [hr]; exact h.read⟩, rfl⟩, ?_, ?_, ?_⟩
  · exact (r2.block g (by omega) hg2).trans ((r1.block g wg hg1).trans h.block)
  · rw [List.nodup_cons, List.nodup_append]
    refine ⟨?_, n1, n2, ?_⟩
    · intro hm
      rcases List.mem_append.mp hm with hm | hm
      · rcases s1 g hm with h | h
        · exact hg1 h
        · omega
      · rcases s2 g hm with h | h
        · exact hg2 h
        · omega
    · rintro a ha b hb rfl
      rcases s2 a hb with h | h
      · exact d1 a ha h
      · have := w1l a ha; omega
  · intro k hk
    rcases List.mem_cons.mp hk with rfl | hk
    · exact .inl (by simp)
    · rcases List.mem_append.mp hk with hk | hk
      · rcases s1 k hk with h | h
        · exact .inl (by simp [h])
        · exact .inr h
      · rcases s2 k hk with h | h
        · exact .inl (by simp [h])
        · exact .inr (by omega)
  · exact (r1.mono (fun k hk => .inl (by simp [hk]))).trans (r2.mono (fun k hk => .inl (by simp [hk])))

theorem PairAt.grown {g x y : Nat} {X : PEng} {E : Eng} {w w' : World} {f1 f2 : List Nat} (h : PairAt g x y X E w f1 f2) (hf : Fr [] w w') : PairAt g x y X E w' f1 f2 :=
  ⟨(hf.block g (lt_of_block h.block) (by simp)).trans h.block, PEngA.framed _ _ h.prog hf (by simp), EngA.framed (QR.framed _) _ _ h.doc hf (by simp), h.read⟩
theorem EngTo.after {r : Src} {y : Nat} {E : Eng} {f : List Nat} {w w' w2 : World} (h : EngTo (QR r) y E f w w') (hf : Fr [] w' w2) : EngTo (QR r) y E f w w2 := by
  obtain ⟨f', a, n, s, r⟩ := h
  exact ⟨f', EngA.framed (QR.framed _) _ _ a hf (by simp), n, s, r.trans (hf.mono (fun k hk => by cases hk))⟩
theorem EngTo.before {r : Src} {y : Nat} {E : Eng} {f : List Nat} {w w0 w' : World} (h : EngTo (QR r) y E f w0 w') (hf : Fr [] w w0) : EngTo (QR r) y E f w w' := by
  obtain ⟨f', a, n, s, r⟩ := h
  refine ⟨f', a, n, fun k hk => ?_, (hf.mono (fun k hk => by cases hk)).trans r⟩
  rcases s k hk with h | h
  · exact .inl h
  · exact .inr (Nat.le_trans hf.size h)

/-! What is known of a pair after i steps. -/
structure Bnd (i : Nat) (X : PEng) (E : Eng) : Prop where
  room : E.room = 999
  opened : E.opened ≤ i
  wrLen : ∀ S ∈ E.opn, S.wr.length ≤ i
  wrVal : ∀ S ∈ E.opn, ∀ q ∈ S.wr, -1 ≤ q.2 ∧ q.2 ≤ 9
  comLen : E.com.length ≤ i
  comEach : ∀ l ∈ E.com, l.length ≤ 60
  comVal : ∀ l ∈ E.com, ∀ q ∈ l, -1 ≤ q.2 ∧ q.2 ≤ 9
  kept : E.kept.length ≤ 999
  hist : ∀ c, (X.hist c).length ≤ i
def Good (i : Nat) (q : PEng × Eng) : Prop := (∃ L, Sim q.1 q.2 L) ∧ Bnd i q.1 q.2
theorem Bnd.mono {i j : Nat} {X : PEng} {E : Eng} (h : Bnd i X E) (hij : i ≤ j) : Bnd j X E :=
  ⟨h.room, by have := h.opened; omega, fun S hS => Nat.le_trans (h.wrLen S hS) hij, h.wrVal, Nat.le_trans h.comLen hij, h.comEach, h.comVal, h.kept, fun c => Nat.le_trans (h.hist c) hij⟩
theorem Good.mono {i j : Nat} {q : PEng × Eng} (h : Good i q) (hij : i ≤ j) : Good j q := ⟨h.1, h.2.mono hij⟩
theorem Good.wf {i : Nat} {q : PEng × Eng} (h : Good i q) (hi : i ≤ 9223372036854775806) : EngWF q.2 := by
  obtain ⟨⟨L, hs⟩, hb⟩ := h
  refine ⟨Nat.le_trans hb.comLen hi, fun l hl => by have := hb.comEach l hl; omega, hb.comVal, hs.len, fun S hS => ?_, fun S hS => Nat.le_trans (hb.wrLen S hS) hi, hb.wrVal⟩
  rw [hs.opn] at hS
  obtain ⟨p, hp, rfl⟩ := List.mem_map.mp hS
  exact hs.snap p hp
theorem Good.digs {i : Nat} {q : PEng × Eng} (h : Good i q) (hi : i ≤ 9223372036854775806) {n : Int} {k : Nat} (hf : findP q.1 n = some k) : Digs (seenP q.1 k) := by
  have hw := h.wf hi
  obtain ⟨⟨L, hs⟩, hb⟩ := h
  rcases hs.find n with ⟨h1, _⟩ | ⟨j, hj, hj2, e, _, h1, _⟩
  · rw [h1] at hf; cases hf
  · rw [h1] at hf
    cases hf
    intro c v hc hv
    rw [hs.seen (List.getElem_mem hj) hc] at hv
    have hS : L[j].2 ∈ q.2.opn := by rw [← e]; exact List.getElem_mem hj2
    have := hw.sees hS (cellT c)
    unfold toO at hv
    split at hv
    · cases hv
    · cases hv; omega

theorem Good.more {i : Nat} {q : PEng × Eng} (h : Good i q) (hi : i ≤ 4000000000000) {n : Int} {k : Nat} (hf : findP q.1 n = some k) : (q.1.ses k).more := by
  obtain ⟨⟨L, hs⟩, hb⟩ := h
  rcases hs.find n with ⟨h1, _⟩ | ⟨j, hj, hj2, e, _, h1, _⟩
  · rw [h1] at hf; cases hf
  · rw [h1] at hf
    cases hf
    have hm := List.getElem_mem hj
    have s1 := hs.ses _ hm
    have s2 := hs.snap _ hm
    have s3 := hb.wrLen L[j].2 (by rw [← e]; exact List.getElem_mem hj2)
    have s4 := hb.comLen
    have s5 := s1.made
    have s6 := s1.snap
    unfold PSes.more
    rw [s5, s6]
    omega
theorem popen_src (X : PEng) : (popenF X).2.src = X.src := by unfold popenF; cases numberedP X 0 <;> rfl
theorem pput_src (X : PEng) (n : Int) (s : ByteArray) : (pputF X n s).2.src = X.src := by
  unfold pputF
  cases findP X n with
  | none => rfl
  | some k => cases factB s <;> rfl
theorem pclear_src (X : PEng) (n : Int) (s : ByteArray) : (pclearF X n s).2.src = X.src := by
  unfold pclearF
  cases findP X n with
  | none => rfl
  | some k => cases cellB s <;> rfl
theorem pabort_src (X : PEng) (n : Int) : (pabortF X n).2.src = X.src := by
  unfold pabortF
  cases findP X n <;> rfl
theorem pcommit_src (X : PEng) (n : Int) : (pcommitF X n).2.src = X.src := by
  unfold pcommitF
  cases findP X n with
  | none => rfl
  | some k =>
    simp only []
    cases hasW (X.ses k) with
    | false => rfl
    | true => cases clash X (X.ses k) <;> rfl

end Go.Proofs.YthlhbjnkohinmaaGreat

/- What is known of a pair stays known; Open of a pair. -/
namespace Go.Proofs.YthlhbjnkohinmaaGreat
open Go.RowKit

theorem good_open {i : Nat} {X : PEng} {E : Eng} (h : Good i (X, E)) : Good (i + 1) ((popenF X).2, (rbeginF E).2) ∧ (popenF X).1 = (rbeginF E).1 ∧ (popenF X).2.hist = X.hist := by
  obtain ⟨⟨L, hs⟩, hb⟩ := h
  obtain ⟨h1, L', h2⟩ := hs.open
  have hh : (popenF X).2.hist = X.hist := by unfold popenF; cases numberedP X 0 <;> rfl
  refine ⟨⟨⟨L', h2⟩, ?_⟩, h1, hh⟩
  have b := hb.mono (Nat.le_succ i)
  unfold rbeginF at *
  by_cases h8 : 8 ≤ E.opn.length
  · rw [if_pos h8]
    exact ⟨b.room, b.opened, b.wrLen, b.wrVal, b.comLen, b.comEach, b.comVal, b.kept, fun c => by show ((popenF X).2.hist c).length ≤ i + 1; rw [hh]; exact b.hist c⟩
  · rw [if_neg h8]
    refine ⟨b.room, ?_, fun S hS => ?_, fun S hS => ?_, b.comLen, b.comEach, b.comVal, b.kept, fun c => by show ((popenF X).2.hist c).length ≤ i + 1; rw [hh]; exact b.hist c⟩
    · have := hb.opened
      show E.opened + 1 ≤ ((i + 1 : Nat) : Int)
      simp at this
      omega
    · rcases List.mem_append.mp hS with hS | hS
      · exact b.wrLen S hS
      · simp at hS; rw [hS]; simp
    · rcases List.mem_append.mp hS with hS | hS
      · exact b.wrVal S hS
      · simp at hS; rw [hS]; intro q hq; cases hq

theorem bnd_add {i : Nat} {X X' : PEng} {E : Eng} (hb : Bnd i X E) (k : Nat) (p : Wr) (hp : -1 ≤ p.2 ∧ p.2 ≤ 9) (hh : X'.hist = X.hist) : Bnd (i + 1) X' (addW E k p) := by
  have b := hb.mono (Nat.le_succ i)
  have hmem : ∀ S ∈ (addW E k p).opn, S ∈ E.opn ∨ ∃ S0 ∈ E.opn, S = S0.add p := by
    intro S hS
    obtain ⟨j, hj, rfl⟩ := List.mem_iff_getElem.mp hS
    have hj2 : j < E.opn.length := by simpa [addW] using hj
    simp only [addW, List.getElem_modify]
    split
    · exact .inr ⟨_, List.getElem_mem hj2, rfl⟩
    · exact .inl (List.getElem_mem hj2)
  refine ⟨b.room, b.opened, fun S hS => ?_, fun S hS => ?_, b.comLen, b.comEach, b.comVal, b.kept, fun c => by rw [hh]; exact b.hist c⟩
  · rcases hmem S hS with h | ⟨S0, h, rfl⟩
    · exact b.wrLen S h
    · have := hb.wrLen S0 h
      simp [Ses.add]
      omega
  · rcases hmem S hS with h | ⟨S0, h, rfl⟩
    · exact b.wrVal S h
    · intro q hq
      simp only [Ses.add, List.mem_append, List.mem_singleton] at hq
      rcases hq with hq | rfl
      · exact b.wrVal S0 h q hq
      · exact hp
theorem bnd_hist {i : Nat} {X X' : PEng} {E : Eng} (hb : Bnd i X E) (hh : X'.hist = X.hist) : Bnd (i + 1) X' E := by
  have b := hb.mono (Nat.le_succ i)
  exact ⟨b.room, b.opened, b.wrLen, b.wrVal, b.comLen, b.comEach, b.comVal, b.kept, fun c => by rw [hh]; exact b.hist c⟩

theorem good_put {i : Nat} {X : PEng} {E : Eng} (h : Good i (X, E)) (n : Int) (s : ByteArray) : Good (i + 1) ((pputF X n s).2, (rputF E n s).2) ∧ (pputF X n s).1 = (rputF E n s).1 ∧ (pputF X n s).2.hist = X.hist := by
  obtain ⟨⟨L, hs⟩, hb⟩ := h
  obtain ⟨h1, h2⟩ := hs.put n s
  have hh : (pputF X n s).2.hist = X.hist := by
    unfold pputF
    cases findP X n with
    | none => rfl
    | some k => cases factB s <;> rfl
  refine ⟨⟨h2, ?_⟩, h1, hh⟩
  show Bnd (i + 1) (pputF X n s).2 (rputF E n s).2
  unfold rputF
  cases idxS E.opn n with
  | none => exact bnd_hist hb hh
  | some k =>
    cases hf : factB s with
    | false => exact bnd_hist hb hh
    | true =>
      refine bnd_add hb k _ ?_ hh
      simp only [factB, Bool.and_eq_true, digB, decide_eq_true_eq] at hf
      show -1 ≤ bt s 2 - 48 ∧ bt s 2 - 48 ≤ 9
      omega
theorem good_clear {i : Nat} {X : PEng} {E : Eng} (h : Good i (X, E)) (n : Int) (s : ByteArray) : Good (i + 1) ((pclearF X n s).2, (rclearF E n s).2) ∧ (pclearF X n s).1 = (rclearF E n s).1 ∧ (pclearF X n s).2.hist = X.hist := by
  obtain ⟨⟨L, hs⟩, hb⟩ := h
  obtain ⟨h1, h2⟩ := hs.clear n s
  have hh : (pclearF X n s).2.hist = X.hist := by
    unfold pclearF
    cases findP X n with
    | none => rfl
    | some k => cases cellB s <;> rfl
  refine ⟨⟨h2, ?_⟩, h1, hh⟩
  show Bnd (i + 1) (pclearF X n s).2 (rclearF E n s).2
  unfold rclearF
  cases idxS E.opn n with
  | none => exact bnd_hist hb hh
  | some k =>
    cases hf : cellB s with
    | false => exact bnd_hist hb hh
    | true => exact bnd_add hb k _ (by simp) hh
theorem bnd_end {i : Nat} {X X' : PEng} {E : Eng} (hb : Bnd i X E) (n : Int) (hh : ∀ c, (X'.hist c).length ≤ i) : Bnd i X' (rendF E n) :=
  ⟨hb.room, hb.opened, fun S hS => hb.wrLen S (List.mem_filter.mp hS).1, fun S hS => hb.wrVal S (List.mem_filter.mp hS).1, hb.comLen, hb.comEach, hb.comVal, hb.kept, hh⟩
theorem good_abort {i : Nat} {X : PEng} {E : Eng} (h : Good i (X, E)) (n : Int) : Good (i + 1) ((pabortF X n).2, (rabortF E n).2) ∧ (pabortF X n).1 = (rabortF E n).1 ∧ (pabortF X n).2.hist = X.hist := by
  obtain ⟨⟨L, hs⟩, hb⟩ := h
  obtain ⟨h1, h2⟩ := hs.abort n
  have hh : (pabortF X n).2.hist = X.hist := by
    unfold pabortF
    cases findP X n <;> rfl
  refine ⟨⟨h2, ?_⟩, h1, hh⟩
  show Bnd (i + 1) (pabortF X n).2 (rabortF E n).2
  unfold rabortF
  cases idxS E.opn n with
  | none => exact bnd_hist hb hh
  | some k => exact bnd_end (hb.mono (Nat.le_succ i)) n (fun c => by rw [hh]; exact Nat.le_succ_of_le (hb.hist c))

/-- A pair behind a step. -/
def PairTo (g i : Nat) (f : List Nat) (w w' : World) : Prop := ∃ q', ATo (PairA (.pointer (some ⟨g, 0, none⟩)) q') f w w' ∧ Good (i + 1) q'

/-- A step, as a value. -/
abbrev stepV (k a b c : Int) (s : ByteArray) : Value := .agg #[.int .i64 k, .int .i64 a, .int .i64 b, .int .i64 c, .string s]
abbrev stepC (k a b c : Int) (s : ByteArray) : Obj := .cells #[.int .i64 k, .int .i64 a, .int .i64 b, .int .i64 c, .string s] 30

/-- What a walk over a pair's step begins with. -/
structure Start (g x y : Nat) (X : PEng) (E : Eng) (f1 f2 : List Nat) (i : Nat) (w : World) : Prop where
  pair : PairAt g x y X E w f1 f2
  nodup : (g :: (f1 ++ f2)).Nodup
  good : Good i (X, E)
  small : i ≤ 4000000000000
theorem Start.grown {g x y : Nat} {X : PEng} {E : Eng} {f1 f2 : List Nat} {i : Nat} {w w' : World} (h : Start g x y X E f1 f2 i w) (hf : Fr [] w w') : Start g x y X E f1 f2 i w' := ⟨h.pair.grown hf, h.nodup, h.good, h.small⟩
theorem Start.apart {g x y : Nat} {X : PEng} {E : Eng} {f1 f2 : List Nat} {i : Nat} {w : World} (h : Start g x y X E f1 f2 i w) : g ∉ f1 ∧ g ∉ f2 ∧ (∀ k ∈ f2, k ∉ f1) ∧ f1.Nodup ∧ f2.Nodup ∧ (∀ k ∈ f1, k < w.heap.size) ∧ (∀ k ∈ f2, k < w.heap.size) := by
  have hn := h.nodup
  rw [List.nodup_cons, List.nodup_append] at hn
  obtain ⟨ng, nf1, nf2, nd⟩ := hn
  exact ⟨fun e => ng (by simp [e]), fun e => ng (by simp [e]), fun k h2 h1 => nd k h1 k h2 rfl, nf1, nf2, PEngA.within _ _ h.pair.prog, EngA.within (QR.within _) _ _ h.pair.doc⟩
/-- The document's engine behind the program's call. -/
theorem Start.doc {g x y : Nat} {X X' : PEng} {E : Eng} {f1 f2 : List Nat} {i : Nat} {w w1 : World} (h : Start g x y X E f1 f2 i w) (h1 : ATo (PEngA x X') f1 w w1) : EngA (QR X.src) y E w1 f2 := by
  obtain ⟨_, _, _, _, r⟩ := h1
  exact EngA.framed (QR.framed _) _ _ h.pair.doc r h.apart.2.2.1

set_option maxRecDepth 20000 in
set_option maxHeartbeats 1000000 in
theorem pair_open (g x y : Nat) (X : PEng) (E : Eng) (f1 f2 : List Nat) (i : Nat) (a b c : Int) (s : ByteArray) (w : World) (h : Start g x y X E f1 f2 i w) :
    Calls Tryz.prog 14 #[.pointer (some ⟨g, 0, none⟩), stepV 2 a b c s] w fun e w' => e = .returned (.bool true) ∧ PairTo g i (g :: (f1 ++ f2)) w w' := by
  obtain ⟨hg1, hg2, hd12, hn1, hn2, hl1, hl2⟩ := h.apart
  obtain ⟨good', heq, hh⟩ := good_open h.good
  have hop := h.good.2.opened
  obtain ⟨L, hs⟩ := h.good.1
  have hopn := hs.openedPos
  have hop2 := hs.opened
  have hsm := h.small
  have hwf := h.good.wf (by omega)
  have HPC : Hid (∀ W, Fr [] w W → Calls Tryz.prog 19 #[.pointer (some ⟨x, 0, none⟩)] W fun e w' => e = .returned (.tuple #[.int .i64 (rbeginF E).1.1, .int .i64 (rbeginF E).1.2]) ∧ ATo (PEngA x (popenF X).2) f1 W w') := hid (by
    intro W hW
    obtain ⟨kv, hk⟩ := (h.pair.grown hW).prog
    refine (popen_any x X kv W hk.1 (by simp at hop hop2 hopn; omega)).mono ?_
    rintro e w' ⟨rfl, hp⟩
    exact ⟨by rw [heq], hp.to hk hn1 hh⟩)
  have HDC : Hid (∀ W W1, Fr [] w W → ATo (PEngA x (popenF X).2) f1 W W1 → Calls Tryz.prog 20 #[.pointer (some ⟨y, 0, none⟩)] W1 fun e w' => e = .returned (.tuple #[.int .i64 (rbeginF E).1.1, .int .i64 (rbeginF E).1.2]) ∧ EngTo (QR X.src) y (rbeginF E).2 f2 W1 w') := hid (by
    intro W W1 hW h1
    exact rbegin_any (QR.framed _) (QR.within _) ((h.grown hW).doc h1) hn2 hwf.opnLen (by simp at hop hop2 hopn; omega) hwf.comLen)
  have HFIN : Hid (∀ W W1 W2, Fr [] w W → ATo (PEngA x (popenF X).2) f1 W W1 → EngTo (QR X.src) y (rbeginF E).2 f2 W1 W2 → PairTo g i (g :: (f1 ++ f2)) w W2) := hid (by
    intro W W1 W2 hW h1 h2
    exact ⟨_, pair_close h.pair h.nodup (h1.before hW) h2 (popen_src X), good'⟩)
  have c0 : w.cell? ⟨g, 0, none⟩ = some (.pointer (some ⟨x, 0, none⟩)) := by rw [cell_of_row _ _ _ _ _ _ h.pair.block]; rfl
  have c1 : w.cell? ⟨g, 1, none⟩ = some (.pointer (some ⟨y, 0, none⟩)) := by rw [cell_of_row _ _ _ _ _ _ h.pair.block]; rfl
  have hgl := lt_of_block h.pair.block
  have hgz : g ≠ w.heap.size := by omega
  obtain ⟨r1, hr1⟩ : ∃ r1, r1 = (rbeginF E).1.1 := ⟨_, rfl⟩
  obtain ⟨r2, hr2⟩ : ∃ r2, r2 = (rbeginF E).1.2 := ⟨_, rfl⟩
  rw [← hr1, ← hr2] at HPC HDC
  have q1 : (r1 == r1) = true := by simp
  have q2 : (r2 == r2) = true := by simp
  clear h good' heq hh hop hs hopn hop2 hwf hr1 hr2 hd12
  go_enter Tryz.func14, Tryz.ntmps14
  go_wp2_with fail
  go_at_call 19
  refine (HPC.out _ (fr_alloc w _)).mono ?_
  rintro e w1 ⟨rfl, ht⟩
  have HT := hid ht
  obtain ⟨_, _, _, _, hfr⟩ := ht
  have c1' := keepc hfr (b := g) (i := 1) (v := .pointer (some ⟨y, 0, none⟩)) ((World.cell?_alloc_lt _ _ _ hgl).trans c1) hg1
  clear hfr c1
  go_wp2_with fail
  go_at_call 20
  refine (HDC.out _ _ (fr_alloc w _) HT.out).mono ?_
  rintro e w2 ⟨rfl, ht2⟩
  have HT2 := hid ht2
  clear ht2 c1'
  go_wp2_with (go_at_call 18; refine (num_any _ _).mono ?_; rintro e w' ⟨rfl, rfl⟩)
  go_ret
  exact ⟨rfl, HFIN.out _ _ _ (fr_alloc w _) HT.out HT2.out⟩

end Go.Proofs.YthlhbjnkohinmaaGreat
