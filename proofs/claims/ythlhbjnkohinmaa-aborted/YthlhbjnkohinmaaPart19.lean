import Derived.Test.YthlhbjnkohinmaaPart16
import Derived.Test.YthlhbjnkohinmaaPart18
import Derived.Test.YthlhbjnkohinmaaPart17
/- An act of any kind, as plain data and in memory. -/
namespace Go.Proofs.Ythlhbjnkohinmaa
open Go.RowKit

/-- An act: its answer, and the engine behind it. -/
def pact (X : PEng) (F : Mks) (kd b c : Int) (s : ByteArray) : (ByteArray × Int × Int × Int) × PEng × Mks :=
  if kd = 1 then ((ByteArray.empty, (popenF X).1.1, 0, (popenF X).1.2), (popenF X).2, nextF X (popenF X).2 F)
  else if kd = 2 then ((ByteArray.empty, 0, 0, (pputF X b s).1), (pputF X b s).2, nextF X (pputF X b s).2 F)
  else if kd = 3 then ((ByteArray.empty, 0, 0, (pclearF X b s).1), (pclearF X b s).2, nextF X (pclearF X b s).2 F)
  else if kd = 4 then (((pviewF X b).1, 0, 0, (pviewF X b).2), X, F)
  else if kd = 5 then ((ByteArray.empty, 0, 0, (pabortF X b).1), (pabortF X b).2, nextF X (pabortF X b).2 F)
  else if kd = 6 then ((ByteArray.empty, (pcommitG X b).1.1, 0, (pcommitG X b).1.2), (pcommitG X b).2, nextF X (pcommitG X b).2 F)
  else if kd = 7 then (((pmatE X F b).1, 0, 0, (pmatE X F b).2), X, F)
  else if kd = 8 then ((ByteArray.empty, (prunE X F b c).1.1, (prunE X F b c).1.2.1, (prunE X F b c).1.2.2), (prunE X F b c).2.1, (prunE X F b c).2.2)
  else if kd = 9 then ((ByteArray.empty, ((keptN X 60 : Nat) : Int), 0, 0), X, F)
  else if kd = 10 then ((ByteArray.empty, (psweepF X).1, 0, 0), (psweepF X).2, nextF X (psweepF X).2 F)
  else ((ByteArray.empty, 0, 0, 0), X, F)
theorem pact_open (X : PEng) (F : Mks) (b c : Int) (s : ByteArray) : pact X F 1 b c s = ((ByteArray.empty, (popenF X).1.1, 0, (popenF X).1.2), (popenF X).2, nextF X (popenF X).2 F) := rfl
theorem pact_put (X : PEng) (F : Mks) (b c : Int) (s : ByteArray) : pact X F 2 b c s = ((ByteArray.empty, 0, 0, (pputF X b s).1), (pputF X b s).2, nextF X (pputF X b s).2 F) := rfl
theorem pact_clear (X : PEng) (F : Mks) (b c : Int) (s : ByteArray) : pact X F 3 b c s = ((ByteArray.empty, 0, 0, (pclearF X b s).1), (pclearF X b s).2, nextF X (pclearF X b s).2 F) := rfl
theorem pact_view (X : PEng) (F : Mks) (b c : Int) (s : ByteArray) : pact X F 4 b c s = (((pviewF X b).1, 0, 0, (pviewF X b).2), X, F) := rfl
theorem pact_abort (X : PEng) (F : Mks) (b c : Int) (s : ByteArray) : pact X F 5 b c s = ((ByteArray.empty, 0, 0, (pabortF X b).1), (pabortF X b).2, nextF X (pabortF X b).2 F) := rfl
theorem pact_commit (X : PEng) (F : Mks) (b c : Int) (s : ByteArray) : pact X F 6 b c s = ((ByteArray.empty, (pcommitG X b).1.1, 0, (pcommitG X b).1.2), (pcommitG X b).2, nextF X (pcommitG X b).2 F) := rfl
theorem pact_matches (X : PEng) (F : Mks) (b c : Int) (s : ByteArray) : pact X F 7 b c s = (((pmatE X F b).1, 0, 0, (pmatE X F b).2), X, F) := rfl
theorem pact_run (X : PEng) (F : Mks) (b c : Int) (s : ByteArray) : pact X F 8 b c s = ((ByteArray.empty, (prunE X F b c).1.1, (prunE X F b c).1.2.1, (prunE X F b c).1.2.2), (prunE X F b c).2.1, (prunE X F b c).2.2) := rfl
theorem pact_kept (X : PEng) (F : Mks) (b c : Int) (s : ByteArray) : pact X F 9 b c s = ((ByteArray.empty, ((keptN X 60 : Nat) : Int), 0, 0), X, F) := rfl
theorem pact_sweep (X : PEng) (F : Mks) (b c : Int) (s : ByteArray) : pact X F 10 b c s = ((ByteArray.empty, (psweepF X).1, 0, 0), (psweepF X).2, nextF X (psweepF X).2 F) := rfl
theorem pact_none (X : PEng) (F : Mks) (kd b c : Int) (s : ByteArray) (h : kd < 1 ∨ 10 < kd) : pact X F kd b c s = ((ByteArray.empty, 0, 0, 0), X, F) := by
  unfold pact
  rw [if_neg (by omega), if_neg (by omega), if_neg (by omega), if_neg (by omega), if_neg (by omega), if_neg (by omega), if_neg (by omega), if_neg (by omega), if_neg (by omega), if_neg (by omega)]
theorem kind_cases (kd : Int) : (kd < 1 ∨ 10 < kd) ∨ kd = 1 ∨ kd = 2 ∨ kd = 3 ∨ kd = 4 ∨ kd = 5 ∨ kd = 6 ∨ kd = 7 ∨ kd = 8 ∨ kd = 9 ∨ kd = 10 := by omega
theorem Fit.act {i : Nat} {X : PEng} (h : Fit i X) (F : Mks) (kd b c : Int) (s : ByteArray) (hR : RulesP X.src.2.1 X.src.2.2) : Fit (i + 1) (pact X F kd b c s).2.1 := by
  rcases kind_cases kd with h0 | rfl | rfl | rfl | rfl | rfl | rfl | rfl | rfl | rfl | rfl
  · rw [pact_none _ _ _ _ _ _ h0]; exact h.mono (Nat.le_succ i)
  · exact h.open
  · exact h.put b s
  · exact h.clear b s
  · exact h.mono (Nat.le_succ i)
  · exact h.abort b
  · exact h.commit b
  · exact h.mono (Nat.le_succ i)
  · exact h.run F b c hR
  · exact h.mono (Nat.le_succ i)
  · exact h.sweep
theorem pact_src {i : Nat} {X : PEng} (h : Fit i X) (F : Mks) (kd b c : Int) (s : ByteArray) : (pact X F kd b c s).2.1.src = X.src := by
  rcases kind_cases kd with h0 | rfl | rfl | rfl | rfl | rfl | rfl | rfl | rfl | rfl | rfl
  · rw [pact_none _ _ _ _ _ _ h0]
  · exact (popen_plain X h.opened.1).2.2.1
  · exact (pput_plain X b s).2.2.1
  · exact (pclear_plain X b s).2.2.1
  · rfl
  · exact (pabort_plain X b).2.2.1
  · exact (pcommit_plain X b).2.2.1
  · rfl
  · rw [pact_run]
    unfold prunE
    cases findP X b with
    | none => rfl
    | some k =>
      simp only []
      split <;> rfl
  · rfl
  · rfl

set_option maxHeartbeats 1000000 in
theorem eact (x : Nat) (X : PEng) (F : Mks) (f : List Nat) (i : Nat) (kd b c : Int) (s : ByteArray) (w : World) (h : PEngE x X F w f) (hn : f.Nodup) (hg : Fit i X) (hi : i ≤ 100000000000000) (hR : RulesP X.src.2.1 X.src.2.2) (hs63 : s.size < 9223372036854775808) :
    Calls Try.prog 16 #[.pointer (some ⟨x, 0, none⟩), actV kd b c s] w fun e w' => e = .returned (ansV (pact X F kd b c s).1.1 (pact X F kd b c s).1.2.1 (pact X F kd b c s).1.2.2.1 (pact X F kd b c s).1.2.2.2) ∧ ATo (PEngE x (pact X F kd b c s).2.1 (pact X F kd b c s).2.2) f w w' := by
  have hwi := PEngE.within _ _ _ h
  have hW : ∀ W, Fr [] w W → PEngE x X F W f := fun W r => PEngE.framed _ _ _ h r (by simp)
  rcases kind_cases kd with h0 | rfl | rfl | rfl | rfl | rfl | rfl | rfl | rfl | rfl | rfl
  · rw [pact_none _ _ _ _ _ _ h0]
    exact gact_none x (PEngE x X F) (PEngE.framed _ _ _) f kd b c s w h hn h0
  · rw [pact_open]
    exact gact_open x _ (PEngE.framed _ _ _) f b c s w hwi _ _ (fun W r => eopen_to x X F f i W (hW W r) hn hg hi)
  · rw [pact_put]
    exact gact_put x _ (PEngE.framed _ _ _) f b c s w hwi _ (fun W r => eput_to x X F f i b s W (hW W r) hn hg hi hs63)
  · rw [pact_clear]
    exact gact_clear x _ (PEngE.framed _ _ _) f b c s w hwi _ (fun W r => eclear_to x X F f i b s W (hW W r) hn hg hi hs63)
  · rw [pact_view]
    exact gact_view x _ (PEngE.framed _ _ _) f b c s w hwi _ _ (fun W r => eview_to x X F f i b W (hW W r) hn hg hi)
  · rw [pact_abort]
    exact gact_abort x _ (PEngE.framed _ _ _) f b c s w hwi _ (fun W r => eabort_to x X F f b W (hW W r) hn)
  · rw [pact_commit]
    exact gact_commit x _ (PEngE.framed _ _ _) f b c s w hwi _ _ (fun W r => ecommit_to x X F f i b W (hW W r) hn hg hi)
  · rw [pact_matches]
    exact gact_matches x _ (PEngE.framed _ _ _) f b c s w hwi _ _ (fun W r => ematches_to x X F f i b W (hW W r) hn hg hi hR)
  · rw [pact_run]
    exact gact_run x _ (PEngE.framed _ _ _) f b c s w hwi _ _ _ (fun W r => erun_to x X F f i b c W (hW W r) hn hg hi hR)
  · rw [pact_kept]
    exact gact_kept x _ (PEngE.framed _ _ _) f b c s w hwi _ (fun W r => ekept_to x X F f i W (hW W r) hn hg hi)
  · rw [pact_sweep]
    exact gact_sweep x _ (PEngE.framed _ _ _) f b c s w hwi _ (fun W r => esweep_to x X F f i W (hW W r) hn hg hi)

end Go.Proofs.Ythlhbjnkohinmaa

/- The engine that New makes, with its rules; engine of any text. -/
namespace Go.Proofs.Ythlhbjnkohinmaa
open Go.RowKit

theorem own_still {w w' : World} {B : Nat} {e : TypeId} {size : Nat} {v : Value} {n : Nat} {xs : List Value} (h : w.ownsRow B e size v n xs)
    (hk : ∀ g cs, B ≤ g → w.heap[g]? = some (.cells cs e (0, 0)) → w'.heap[g]? = w.heap[g]?) : w'.ownsRow 0 e size v n xs := by
  obtain ⟨h1, h2⟩ := h
  refine ⟨h1, ?_⟩
  rcases h2 with h2 | ⟨g, cap, cur, rfl, hb, hh, h3⟩
  · exact .inl h2
  · exact .inr ⟨g, cap, cur, rfl, Nat.zero_le _, (hk g _ hb hh).trans hh, h3⟩
/-- Blocks from B on, but for those of one type, are as they were. -/
def SameOut (B : Nat) (t1 : TypeId) (w w' : World) : Prop := ∀ g cs t, B ≤ g → w.heap[g]? = some (.cells cs t (0, 0)) → t ≠ t1 → w'.heap[g]? = w.heap[g]?
theorem Parts_still {w w' : World} {B : Nat} {s : ByteArray} (hk : SameOut B 93 w w') : ∀ (R : List RuleP) (xs : List Value), Parts w B s R xs → Parts w' 0 s R xs
  | [], _, h => h
  | r :: R, xs, h => by
    obtain ⟨a1, m1, c1, a2, m2, c2, ys, rfl, k1, k2, k3⟩ := h
    exact ⟨a1, m1, c1, a2, m2, c2, ys, rfl, own_still k1 (fun g cs h1 h2 => hk g cs _ h1 h2 (by decide)), own_still k2 (fun g cs h1 h2 => hk g cs _ h1 h2 (by decide)), Parts_still hk R ys k3⟩
theorem RulesOwn_still {w w' : World} {B : Nat} {s : ByteArray} {v : Value} {R : List RuleP} (h : RulesOwn w B s v R) (hk : SameOut B 93 w w') : RulesOwn w' 0 s v R := by
  obtain ⟨xs, h1, h2⟩ := h
  exact ⟨xs, own_still h1 (fun g cs a b => hk g cs _ a b (by decide)), Parts_still hk R xs h2⟩
theorem RulesOwn_low {w : World} {B B' : Nat} {s : ByteArray} {v : Value} {R : List RuleP} (hb : B' ≤ B) (h : RulesOwn w B s v R) : RulesOwn w B' s v R := by
  obtain ⟨xs, h1, h2⟩ := h
  refine ⟨xs, own_mono h1 hb, ?_⟩
  clear h1
  induction R generalizing xs with
  | nil => exact h2
  | cons r R ih =>
    obtain ⟨b1, n1, d1, b2, n2, d2, ys, e, k1, k2, k3⟩ := h2
    exact ⟨b1, n1, d1, b2, n2, d2, ys, e, own_mono k1 hb, own_mono k2 hb, ih ys k3⟩
/-- The blocks from B on, but for one. -/
def restBut (w : World) (B x : Nat) : List Nat := (List.range w.heap.size).filter fun g => decide (B ≤ g) && decide (g ≠ x)
theorem restBut_mem {w : World} {B x g : Nat} : g ∈ restBut w B x ↔ g < w.heap.size ∧ B ≤ g ∧ g ≠ x := by simp [restBut]
theorem restBut_nodup (w : World) (B x : Nat) : (restBut w B x).Nodup := List.nodup_range.sublist List.filter_sublist
theorem PRul.fresh {w : World} {B x : Nat} {r : Src} {c1 : Array Value} (h1 : RulesOwn w B r.2.1 r.1.1 r.2.2) (hx : w.heap[x]? = some (.cells c1 93 (0, 0))) : PRul r w (restBut w B x) := by
  refine ⟨fun b hb => (restBut_mem.mp hb).1, fun w' h => ?_⟩
  refine RulesOwn_still h1 (fun g cs t hb hg t1 => h g (restBut_mem.mpr ⟨lt_of_block hg, hb, ?_⟩))
  intro e
  subst e
  rw [hx] at hg
  simp at hg
  exact t1 hg.2.symm
/-- An engine whose blocks are all new. -/
def ENew (x : Nat) (X : PEng) (w w' : World) : Prop := ∃ f, PEngE x X (fun _ => noMk) w' f ∧ f.Nodup ∧ (∀ y ∈ f, w.heap.size ≤ y) ∧ Fr [] w w'
theorem ENew.mk' {w w' : World} {x : Nat} {r : Src} {c1 : Array Value} (hx : w.heap.size ≤ x) (hb : w'.heap[x]? = some (.cells c1 93 (0, 0))) (hp : PEngA x (X0 r) w' [x]) (ho : RulesOwn w' w.heap.size r.2.1 r.1.1 r.2.2) (hf : Fr [] w w') : ENew x (X0 ((.bool false, r.1.2), r.2)) w w' := by
  have hm : mksL (X0 r) = [] := rfl
  refine ⟨[x] ++ (mksL (X0 r) ++ restBut w' w.heap.size x), ⟨X0 r, ⟨[x], _, hp, ⟨_, _, ⟨fun k _ p _ => rfl, rfl⟩, PRul.fresh ho hb, rfl⟩, rfl⟩, rfl⟩, ?_, ?_, hf⟩
  · rw [hm]
    simp only [List.nil_append, List.singleton_append, List.nodup_cons]
    exact ⟨fun e => (restBut_mem.mp e).2.2 rfl, restBut_nodup _ _ _⟩
  · intro y hy
    rw [hm] at hy
    simp only [List.nil_append, List.singleton_append, List.mem_cons] at hy
    rcases hy with e | e
    · omega
    · exact (restBut_mem.mp e).2.1
theorem fit0 (r : Src) (h : 1 ≤ r.1.2 ∧ r.1.2 ≤ 999) : Fit 0 (X0 r) :=
  ⟨⟨Int.le_refl 0, Int.le_refl 0⟩, ⟨Int.le_refl 0, Int.le_refl 0⟩, fun _ _ => ⟨Int.le_refl 0, Int.le_refl 0⟩, fun _ _ _ _ _ => .inl rfl, fun _ _ => ⟨Int.le_refl 0, Int.le_refl 0⟩, fun _ _ => ⟨Int.le_refl 0, Int.le_refl 0⟩, fun _ _ c v e => (by cases e), fun _ => inc_nil, fun c p hp => (by cases hp), (by
    have e : keptN (X0 r) 60 = 0 := rfl
    rw [e]
    show ((0 : Nat) : Int) ≤ r.1.2
    omega), h⟩

set_option maxRecDepth 20000 in
set_option maxHeartbeats 1000000 in
/-- engine of any text. -/
theorem engine_any (s : ByteArray) (room : Int) (w : World) (hs : s.size ≤ maxLen) (h1 : 1 ≤ room) (h2 : room ≤ 999) :
    Calls Try.prog 9 #[.string s, .int .i64 room] w fun e w' => (e = .returned (.tuple #[.pointer none, .bool true]) ∧ Fr [] w w' ∧ ∃ x p, ReadAns s x p none ∧ 1 ≤ x) ∨ ∃ x r, e = .returned (.tuple #[.pointer (some ⟨x, 0, none⟩), .bool true]) ∧ ENew x (X0 r) w w' ∧ r.1.2 = room ∧ r.2.1 = s ∧ ReadAns s 0 0 (some r.2.2) ∧ r.1.1 = .bool false := by
  have HW := hid (works_any w)
  have HN := hid (fun W => new_any s room W hs)
  go_enter Try.func9, Try.ntmps9
  go_wp2_with fail
  go_at_call 26
  refine HW.out.mono ?_
  rintro e w1 ⟨rfl, hf1⟩
  have HF1 := hid hf1
  clear hf1
  go_wp2_with fail
  go_at_call 27
  refine (HN.out _).mono ?_
  rintro e w2 ⟨x, p, o, ha, hg1, hcase⟩
  have HA := hid ha
  have HG := hid (HF1.out.trans (fr_none hg1))
  rcases hcase with ⟨x1, x4, rfl⟩ | ⟨rfl, hroom, rfl⟩ | ⟨rfl, r1, r2, g, R, v, rfl, rfl, hgw, hgb, hro⟩
  · have ho : o = none := by
      rcases ha.zero with ⟨h, _⟩ | ⟨_, _, h⟩
      · omega
      · exact h
    subst ho
    clear ha hg1
    by_cases q1 : x = 1
    · subst q1
      go_wp2_with fail
      go_ret2
      exact .inl ⟨rfl, HG.out, 1, p, HA.out, by omega⟩
    by_cases q2 : x = 2
    · subst q2
      go_wp2_with fail
      go_ret2
      exact .inl ⟨rfl, HG.out, 2, p, HA.out, by omega⟩
    by_cases q3 : x = 3
    · subst q3
      go_wp2_with fail
      go_ret2
      exact .inl ⟨rfl, HG.out, 3, p, HA.out, by omega⟩
    · have q4 : x = 4 := by omega
      subst q4
      go_wp2_with fail
      go_ret2
      exact .inl ⟨rfl, HG.out, 4, p, HA.out, by omega⟩
  · omega
  · have HP : p = 0 := by
      rcases ha.zero with ⟨_, h, _⟩ | ⟨h, _⟩
      · exact h
      · omega
    subst HP
    have HE : Hid (ENew g (X0 ((.bool false, room), s, R)) w w2) := hid (.mk' (r := ((v, room), s, R)) (Nat.le_trans HF1.out.size hgw) hgb (fresh_prog (s, R) hgb) (RulesOwn_low HF1.out.size hro) HG.out)
    clear ha hg1 hgw hgb hro
    go_wp2_with fail
    go_ret2
    exact .inr ⟨g, ((.bool false, room), s, R), rfl, HE.out, rfl, rfl, HA.out, rfl⟩

end Go.Proofs.Ythlhbjnkohinmaa
