/- The book of Serial: Commit. -/
import Derived.Test.YthlhbjnkohinmaaKeep8
namespace Go.Proofs.Ythlhbjnkohinmaa
open Go.RowKit

/-- The book while a commit is laid over it. -/
def bcomN (B : Bk) (C : Cli) (k : Nat) : Bk := { B with
  commits := B.commits + 1
  latest := fun c => if c < k ∧ C.wrote c = true then B.commits + 1 else B.latest c
  vals := fun c => if c < k ∧ C.wrote c = true then C.vals c else B.vals c }
theorem BkAt.congr {w : World} {b : Nat} {B B' : Bk} {v : Value} (h : BkAt w b B v) (h1 : B'.commits = B.commits) (h2 : ∀ c, c < 60 → B'.latest c = B.latest c) (h3 : ∀ c, c < 60 → B'.vals c = B.vals c) : BkAt w b B' v :=
  ⟨h.block, h.cls, by rw [h1]; exact h.commits, fun c hc => by rw [h2 c hc]; exact h.latest c hc, fun c hc => by rw [h3 c hc]; exact h.vals c hc⟩
theorem BkAt.bump {w : World} {b : Nat} {B : Bk} {C : Cli} {v : Value} (h : BkAt w b B v) : BkAt (w.setCell ⟨b, 1, none⟩ (.int .i64 (B.commits + 1))) b (bcomN B C 0) v ∧ Fr [b] w (w.setCell ⟨b, 1, none⟩ (.int .i64 (B.commits + 1))) := by
  obtain ⟨cs, hb⟩ := h.block
  have hc : Chg w (w.setCell ⟨b, 1, none⟩ (.int .i64 (B.commits + 1))) b 1 1 := (Chg.refl w b 1 1).set (by omega) (by omega) _
  refine ⟨⟨hc.blk hb, (hc.cell _ (by omega)).trans h.cls, World.cell?_setCell_same _ _ _ h.commits, fun c hcl => ?_, fun c hcl => ?_⟩, hc.fr⟩
  · rw [hc.cell _ (by omega), h.latest c hcl]
    simp [bcomN]
  · rw [hc.cell _ (by omega), h.vals c hcl]
    simp [bcomN]
theorem bcomN_no {B : Bk} {C : Cli} {k : Nat} (h : C.wrote k = false) : bcomN B C (k + 1) = bcomN B C k := by
  unfold bcomN
  congr 1
  · funext c
    by_cases e : c = k
    · subst e; simp [h]
    · have : (c < k + 1) = (c < k) := by apply propext; omega
      simp only [this]
  · funext c
    by_cases e : c = k
    · subst e; simp [h]
    · have : (c < k + 1) = (c < k) := by apply propext; omega
      simp only [this]
theorem BkAt.lay {w w' : World} {b k : Nat} {B : Bk} {C : Cli} {v : Value} (h : BkAt w b (bcomN B C k) v) (hk : k < 60) (hw : C.wrote k = true) (h1 : w'.cell? ⟨b, 2 + k, none⟩ = some (.int .i64 (B.commits + 1))) (h2 : w'.cell? ⟨b, 62 + k, none⟩ = some (.int .u8 (C.vals k)))
    (hblk : ∃ cs, w'.heap[b]? = some (.cells cs 31 (0, 0))) (hfar : ∀ i, i ≠ 2 + k → i ≠ 62 + k → w'.cell? ⟨b, i, none⟩ = w.cell? ⟨b, i, none⟩) : BkAt w' b (bcomN B C (k + 1)) v := by
  refine ⟨hblk, (hfar _ (by omega) (by omega)).trans h.cls, (hfar _ (by omega) (by omega)).trans h.commits, fun c hc => ?_, fun c hc => ?_⟩
  · by_cases e : c = k
    · subst e
      rw [h1]
      simp [bcomN, hw]
    · rw [hfar _ (by omega) (by omega), h.latest c hc]
      have : (c < k + 1) = (c < k) := by apply propext; omega
      simp only [bcomN, this]
  · by_cases e : c = k
    · subst e
      rw [h2]
      simp [bcomN, hw]
    · rw [hfar _ (by omega) (by omega), h.vals c hc]
      have : (c < k + 1) = (c < k) := by apply propext; omega
      simp only [bcomN, this]
theorem any_false {f : Nat → Bool} (h : (List.range 60).any f = false) : ∀ c, c < 60 → f c = false := by
  intro c hc
  rw [List.any_eq_false] at h
  have := h c (by simpa using hc)
  simpa using this
def anyN (f : Nat → Bool) (k : Nat) : Bool := (List.range k).any f
theorem anyN_succ (f : Nat → Bool) (k : Nat) : anyN f (k + 1) = (anyN f k || f k) := by simp [anyN, List.range_succ]

/-- What the answers to a commit are. -/
theorem commit_ans {X : PEng} {B : Bk} {L : List (Nat × Nat)} (hs : BSim X B L) {k ci : Nat} (hq : (k, ci) ∈ L) {n : Int} (hfp : findP X n = some k) (hci : ci < B.cls.length) :
    pcommitF X n = if bsome B.cls[ci] then (if bclash B B.cls[ci] then ((0, 10), X.setSes k .zero) else ((B.commits + 1, 0), (X.setSes k .zero).commit (X.ses k))) else ((0, 0), X.setSes k .zero) := by
  obtain ⟨_, _, hc⟩ := hs.cli (k, ci) hq
  unfold pcommitF
  rw [hfp]
  simp only []
  rw [hc.hasW, hs.clash hc, hs.latest]
theorem bclash_some {B : Bk} {C : Cli} (h : bclash B C = true) : bsome C = true := by
  unfold bclash at h
  rw [List.any_eq_true] at h
  obtain ⟨c, hc, h1⟩ := h
  unfold bsome
  rw [List.any_eq_true]
  exact ⟨c, hc, by simp at h1; exact h1.1⟩

set_option maxRecDepth 20000 in
set_option maxHeartbeats 4000000 in
/-- A commit by one who is not there. -/
theorem bended_commit_none (b x i : Nat) (B : Bk) (X : PEng) (fb fx : List Nat) (n c : Int) (s : ByteArray) (w : World) (h : KAt b x B X w fb fx) (hg : KGood i B X) (hi : i ≤ 4000000000000) (hfp : findP X n = none) (hbf : bfind B n = none) :
    Calls Try.prog 12 #[.pointer (some ⟨b, 0, none⟩), .pointer (some ⟨x, 0, none⟩), actV 6 n c s] w fun e w' => e = .returned (.bool true) ∧ KNext b x i (fb ++ fx) w w' := by
  obtain ⟨nb, nx, dis, lb, lx⟩ := h.parts
  obtain ⟨L, hs⟩ := hg.sim
  have hfew := hg.few
  have hlat := hs.latest
  have hpos := hs.pos
  have hcom := hg.com
  have hhist := hg.hist
  have HA : Hid (∀ W, Fr [] w W → Calls Try.prog 16 #[.pointer (some ⟨x, 0, none⟩), actV 6 n c s] W fun e w' => e = .returned (ansV ByteArray.empty (pcommitF X n).1.1 0 (pcommitF X n).1.2) ∧ ATo (PEngA x (pcommitF X n).2) fx W w') := hid (fun W hW => act_commit x X fx n c s W (PEngA.framed _ _ h.eng hW (by simp)) nx (by omega) (fun c _ => by have := hhist c; omega) (fun k hk => by rw [hfp] at hk; cases hk) (by obtain ⟨_, hs⟩ := hg.sim; rw [hs.room]; decide))
  have HZ : Hid (w.heap.size ∉ fx) := hid (fun e => by have := lx _ e; omega)
  have HB : Hid (∀ w1, ATo (PEngA x (pcommitF X n).2) fx (w.alloc (.cells #[.int .i64 6, .int .i64 n, .int .i64 c, .string s] 33)) w1 → BkA b B w1 fb) := hid (fun w1 h1 => h.bookAt (h1.before (fr_alloc w _)))
  have HEND : Hid (∀ w1 w2 B', ATo (PEngA x (pcommitF X n).2) fx (w.alloc (.cells #[.int .i64 6, .int .i64 n, .int .i64 c, .string s] 33)) w1 → ATo (BkA b B') fb w1 w2 → KTo b x B' (pcommitF X n).2 (fb ++ fx) w w2) := hid (fun w1 w2 B' h1 h2 => KTo.both h (h1.before (fr_alloc w _)) h2)
  have HLB := hid lb
  have HQ : Hid (∀ w1 w2, BkA b B w1 fb → Fr [] w1 w2 → ATo (BkA b B) fb w1 w2) := hid (fun w1 w2 hb hf => ⟨fb, BkA.framed _ _ hb hf (by simp), nb, fun _ hy => .inl hy, hf.mono (fun k hk => by cases hk)⟩)
  have e1 : pcommitF X n = ((0, 6), X) := by unfold pcommitF; rw [hfp]
  have HSAME : Hid (∀ w1 w2, ATo (PEngA x (pcommitF X n).2) fx (w.alloc (.cells #[.int .i64 6, .int .i64 n, .int .i64 c, .string s] 33)) w1 → Fr [] w1 w2 → KNext b x i (fb ++ fx) w w2) := hid (fun w1 w2 h1 h2 => ⟨B, _, HEND.out w1 w2 B h1 (HQ.out _ _ (HB.out w1 h1) h2), by rw [e1]; exact hg.mono (Nat.le_succ i)⟩)
  rw [show (pcommitF X n).1.1 = 0 by rw [e1], show (pcommitF X n).1.2 = 6 by rw [e1]] at HA
  have HBF := hid hbf
  clear h hg hs hfp hbf e1 nx dis lb lx
  go_enter Try.func12, Try.ntmps12
  go_wp2_with fail
  go_at_call 16
  refine (HA.out _ (fr_alloc w _)).mono ?_
  rintro e w1 ⟨rfl, ht⟩
  have HT := hid ht
  obtain ⟨_, _, _, _, hfr⟩ := ht
  have k1 := keepc hfr (cell_new (w := w) (cs := #[.int .i64 6, .int .i64 n, .int .i64 c, .string s]) (t := 33) (j := 1) rfl) HZ.out
  have hsz1 := hfr.size
  have hHl : w.heap.size < w1.heap.size := by simp at hsz1; omega
  have hHz : w.heap.size ≠ w1.heap.size := by omega
  obtain ⟨v, ps, f2, f3, hb1, hr1, hc1, _⟩ := HB.out w1 HT.out
  have hfc := bfind_any b B v ps f3 n (w1.alloc (.cells #[.string ByteArray.empty, .int .i64 0, .int .i64 0, .int .i64 6] 44)) (hb1.fr (fr_alloc w1 _) (by simp)) (RowA.framed _ _ _ _ _ hr1 (fr_alloc w1 _) (by simp)).1 (EachA.framed CliA.framed _ _ hc1 (fr_alloc w1 _) (by simp)) (by omega)
  rw [HBF.out] at hfc
  have HFC := hid hfc
  clear hfr hsz1 hfc hb1 hr1 hc1
  go_wp2_with fail
  go_at_call 28
  refine HFC.out.mono ?_
  rintro e w2 ⟨rfl, rfl⟩
  go_wp2_with fail
  go_ret
  exact ⟨rfl, HSAME.out _ _ HT.out (fr_alloc w1 _)⟩

end Go.Proofs.Ythlhbjnkohinmaa
