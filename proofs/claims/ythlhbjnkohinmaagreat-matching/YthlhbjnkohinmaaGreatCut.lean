/- The document's reading of rules: the place of the first byte that cannot stand there, and the cutting of texts. -/
import Derived.Test.YthlhbjnkohinmaaGreatOwn
import Derived.Test.YthlhbjnkohinmaaGreatSmall
import Derived.Test.YthlhbjnkohinmaaGreatUb2
import Derived.Lib.Strings
namespace Go.Proofs.YthlhbjnkohinmaaGreat
open Go.RowKit

/-- The automaton's state behind n bytes from the place i on; -1: a byte cannot stand there. -/
def runN (s : ByteArray) : Nat → Int → Nat → Int
  | 0, q, _ => q
  | n + 1, q, i => runN s n (stepF q (bt s i)) (i + 1)
theorem runN_add (s : ByteArray) : ∀ (m n : Nat) (q : Int) (i : Nat), runN s (m + n) q i = runN s n (runN s m q i) (i + m)
  | 0, n, q, i => by simp [runN]
  | m + 1, n, q, i => by
    rw [show m + 1 + n = (m + n) + 1 by omega]
    simp only [runN]
    rw [runN_add s m n, show i + 1 + m = i + (m + 1) by omega]
theorem runN_succ (s : ByteArray) (n : Nat) (q : Int) (i : Nat) : runN s (n + 1) q i = stepF (runN s n q i) (bt s (i + n)) := by
  rw [runN_add s n 1]; rfl

theorem stepF_bd (q c : Int) : -1 ≤ stepF q c ∧ stepF q c ≤ 17 := by
  unfold stepF condsF actsF
  repeat' split
  all_goals omega

/-- What the document's 'place' answers. -/
def PlaceAns (s : ByteArray) (p : Int) : Prop :=
  (p = -1 ∧ runN s s.size 0 0 = 0) ∨ ∃ k : Nat, p = k ∧ k ≤ s.size ∧ 0 ≤ runN s k 0 0 ∧ (k < s.size → stepF (runN s k 0 0) (bt s k) = -1) ∧ (k = s.size → runN s k 0 0 ≠ 0)

set_option maxHeartbeats 1000000 in
theorem place_any (s : ByteArray) (w : World) (hs : s.size ≤ 400) :
    Calls Tryz.prog 76 #[.string s] w fun e w' => ∃ p, e = .returned (.int .i64 p) ∧ PlaceAns s p ∧ w = w' := by
  go_enter Tryz.func76, Tryz.ntmps76
  go_wp2_with fail
  go_loop [3, 4] (fun t i => ∃ k : Nat, k ≤ s.size ∧ i = .int .i64 k ∧ t = .int .i64 (runN s k 0 0) ∧ 0 ≤ runN s k 0 0) (fun _ i => s.size - (intOf i).toNat)
  case atStart => exact ⟨0, Nat.zero_le _, rfl, rfl, by simp [runN]⟩
  case round =>
    obtain ⟨k, hk, rfl, rfl, hq0⟩ := hrel
    by_cases hlt : k < s.size
    · have HS := hid (runN_succ s k 0 0)
      rw [Nat.zero_add] at HS
      have hq17 : runN s k 0 0 ≤ 17 := by
        cases k with
        | zero => simp [runN]
        | succ k => rw [runN_succ]; exact (stepF_bd _ _).2
      have hbt := bt_in hlt
      have hb := bt_bd s k
      have HB := hid hbt
      rw [hbt] at hb
      clear hbt
      have hnx := stepF_bd (runN s k 0 0) (bt s k)
      have HF : Hid (stepF (runN s k 0 0) (bt s k) = if runN s k 0 0 < 9 then condsF (runN s k 0 0) (s[k].toNat : Int) else actsF (runN s k 0 0) (s[k].toNat : Int)) := hid (by rw [HB.out]; rfl)
      obtain ⟨q, hq⟩ : ∃ q, q = runN s k 0 0 := ⟨_, rfl⟩
      obtain ⟨nx, hnxe⟩ : ∃ nx, nx = stepF q (bt s k) := ⟨_, rfl⟩
      rw [← hq] at HS HF hq0 hq17 hnx ⊢
      rw [← hnxe] at HS HF hnx
      have HNX := hid hnxe
      have HQ := hid hq
      clear hnxe hq
      by_cases h9 : q < 9
      · have HC : Hid (condsF q (s[k].toNat : Int) = nx) := hid (by rw [HF.out, if_pos h9])
        have HCC := hid (fun W => conds_any q (s[k].toNat : Int) W hb.1 hb.2 hq0 (by omega))
        rw [HC.out] at HCC
        by_cases hm : nx = -1
        · subst hm
          go_wp2_with (go_at_call 104; refine (HCC.out _).mono ?_; rintro e w' ⟨rfl, rfl⟩)
          go_ret
          exact ⟨_, rfl, .inr ⟨k, rfl, hk, by rw [← HQ.out]; exact hq0, fun _ => by rw [← HQ.out, ← HNX.out], fun h => by omega⟩, rfl⟩
        · have hm' : (nx == -1) = false := by simpa using hm
          go_wp2_with (go_at_call 104; refine (HCC.out _).mono ?_; rintro e w' ⟨rfl, rfl⟩)
          go_round
          case rel => exact ⟨k + 1, by omega, by go_num, by rw [HS.out], by rw [HS.out]; omega⟩
          case measure => simp [intOf]; omega
      · have HC : Hid (actsF q (s[k].toNat : Int) = nx) := hid (by rw [HF.out, if_neg h9])
        have HCC := hid (fun W => acts_any q (s[k].toNat : Int) W hb.1 hb.2 (by omega) hq17)
        rw [HC.out] at HCC
        by_cases hm : nx = -1
        · subst hm
          go_wp2_with (go_at_call 105; refine (HCC.out _).mono ?_; rintro e w' ⟨rfl, rfl⟩)
          go_ret
          exact ⟨_, rfl, .inr ⟨k, rfl, hk, by rw [← HQ.out]; exact hq0, fun _ => by rw [← HQ.out, ← HNX.out], fun h => by omega⟩, rfl⟩
        · have hm' : (nx == -1) = false := by simpa using hm
          go_wp2_with (go_at_call 105; refine (HCC.out _).mono ?_; rintro e w' ⟨rfl, rfl⟩)
          go_round
          case rel => exact ⟨k + 1, by omega, by go_num, by rw [HS.out], by rw [HS.out]; omega⟩
          case measure => simp [intOf]; omega
    · have E : Hid (k = s.size) := hid (by omega)
      by_cases h0 : runN s k 0 0 = 0
      · have H0 := hid h0
        rw [h0]
        clear h0
        go_wp2
        go_ret
        exact ⟨_, rfl, .inl ⟨rfl, by rw [← E.out]; exact H0.out⟩, rfl⟩
      · have h0' : (runN s k 0 0 != 0) = true := by simpa using h0
        go_wp2
        go_ret
        exact ⟨_, rfl, .inr ⟨s.size, rfl, Nat.le_refl _, by rw [← E.out]; exact hq0, fun h => by omega, fun _ => by rw [← E.out]; exact h0⟩, rfl⟩

/-- The cutting: from the place i on, the part that is under way having begun at f, over n bytes more. -/
def cutR (s : ByteArray) (a b : Int) : Nat → Nat → Nat → List (Nat × Nat)
  | 0, _, _ => []
  | n + 1, f, i => if bt s i = a ∨ bt s i = b then (f, i) :: cutR s a b n (i + 1) (i + 1) else cutR s a b n f (i + 1)
def strs (s : ByteArray) (l : List (Nat × Nat)) : List Value := l.map fun p => .string (s.extract p.1 p.2)
theorem strs_snoc (s : ByteArray) (l : List (Nat × Nat)) (f t : Nat) : strs s (l ++ [(f, t)]) = strs s l ++ [.string (s.extract f t)] := by simp [strs]

theorem Tryz.info9 : (Tryz.prog.info? 9).map (fun i => (i.zero, i.size, i.bytes)) = some (some (.string ByteArray.empty), 1, 16) := by kernel_rfl

set_option maxHeartbeats 1000000 in
theorem cut_any (s : ByteArray) (a b : Int) (w : World) (hs : s.size ≤ 401) (_ha : 0 ≤ a ∧ a ≤ 255) (_hb : 0 ≤ b ∧ b ≤ 255) :
    Calls Tryz.prog 106 #[.string s, .int .u8 a, .int .u8 b] w fun e w' => ∃ v, e = .returned v ∧ w'.ownsRow w.heap.size 9 1 v (cutR s a b s.size 0 0).length (strs s (cutR s a b s.size 0 0)) ∧ w.grownBy w' none := by
  obtain ⟨i0, hi0, hz0, hz1, hz2⟩ := info_parts Tryz.info9
  go_enter Tryz.func106, Tryz.ntmps106
  go_wp2_with fail
  go_loopw [7, 8, 9] (fun v t i wr => ∃ (L0 : List (Nat × Nat)) (f k : Nat), k ≤ s.size ∧ f ≤ k ∧ L0.length ≤ k ∧ i = .int .i64 k ∧ t = .int .i64 f ∧ wr.ownsRow w.heap.size 9 1 v L0.length (strs s L0) ∧ w.grownBy wr none ∧ L0 ++ cutR s a b (s.size - k) f k = cutR s a b s.size 0 0) (fun _ _ i _ => s.size - (intOf i).toNat)
  case atStart => exact ⟨[], 0, 0, Nat.zero_le _, Nat.le_refl _, Nat.zero_le _, rfl, rfl, World.ownsRow_nil _ _ _ _, grown_refl _ _, rfl⟩
  case round =>
    obtain ⟨L0, f, k, hk, hf, hL, rfl, rfl, hown, hg, hcut⟩ := hrel
    have HC := hid hcut
    clear hcut
    by_cases hlt : k < s.size
    · have HB := hid (bt_in hlt)
      have hbd := bt_bd s k
      have hsz := hg.size
      rw [HB.out] at hbd
      have e : s.size - k = (s.size - (k + 1)) + 1 := by omega
      rw [e] at HC
      by_cases hab : (s[k].toNat : Int) = a ∨ (s[k].toNat : Int) = b
      · have HC' : Hid ((L0 ++ [(f, k)]) ++ cutR s a b (s.size - (k + 1)) (k + 1) (k + 1) = cutR s a b s.size 0 0) := hid (by
          have := HC.out
          rw [cutR, if_pos (by rw [HB.out]; exact hab)] at this
          simpa using this)
        by_cases h1 : (s[k].toNat : Int) = a
        · have q1 : ((s[k].toNat : Int) == a) = true := by simpa using h1
          clear hab h1
          go_wp2_with (first | (at_builtin; refine wpList_append_own _ rfl (.tmp 28) (.tmp 33) 98 rfl (w.heap.size) 9 i0 (.string ByteArray.empty) 1 16 Tryz.underlying98 hi0 hz0 hz1 hz2 rfl (by decide) _ _ _ rfl (hown.alloc _) _ 1 1 [.string (s.extract f k)] rfl rfl ?c1 ?c2 ?c3 ?c4 ?c5 ?_))
          case c1 => intro j u hj; exact news_at1 hj
          case c2 => intro u hu; simp at hu; subst hu; rfl
          case c3 => unfold maxLen; omega
          case c4 => omega
          case c5 => simp; omega
          · intro v' w3 hown3 hg3 _
            have hown3' : w3.ownsRow w.heap.size 9 1 v' (L0 ++ [(f, k)]).length (strs s (L0 ++ [(f, k)])) := by rw [strs_snoc]; simpa using hown3
            have hg3' : w.grownBy w3 none := grown_own2 (grown_alloc hg _) hg3 (fun g hg => (hown.lt g hg).1)
            have hl3 : (L0 ++ [(f, k)]).length ≤ k + 1 := by simp; omega
            clear hown3 hg3 hown hg
            go_wp2
            go_roundw
            case rel => exact ⟨L0 ++ [(f, k)], k + 1, k + 1, by omega, Nat.le_refl _, hl3, by go_num, by go_num, hown3', hg3', HC'.out⟩
            case measure => simp [intOf]; omega
        · have q1 : ((s[k].toNat : Int) == a) = false := by simpa using h1
          have q2 : ((s[k].toNat : Int) == b) = true := by simpa [h1] using hab
          clear hab h1
          go_wp2_with (first | (at_builtin; refine wpList_append_own _ rfl (.tmp 28) (.tmp 33) 98 rfl (w.heap.size) 9 i0 (.string ByteArray.empty) 1 16 Tryz.underlying98 hi0 hz0 hz1 hz2 rfl (by decide) _ _ _ rfl (hown.alloc _) _ 1 1 [.string (s.extract f k)] rfl rfl ?c1 ?c2 ?c3 ?c4 ?c5 ?_))
          case c1 => intro j u hj; exact news_at1 hj
          case c2 => intro u hu; simp at hu; subst hu; rfl
          case c3 => unfold maxLen; omega
          case c4 => omega
          case c5 => simp; omega
          · intro v' w3 hown3 hg3 _
            have hown3' : w3.ownsRow w.heap.size 9 1 v' (L0 ++ [(f, k)]).length (strs s (L0 ++ [(f, k)])) := by rw [strs_snoc]; simpa using hown3
            have hg3' : w.grownBy w3 none := grown_own2 (grown_alloc hg _) hg3 (fun g hg => (hown.lt g hg).1)
            have hl3 : (L0 ++ [(f, k)]).length ≤ k + 1 := by simp; omega
            clear hown3 hg3 hown hg
            go_wp2
            go_roundw
            case rel => exact ⟨L0 ++ [(f, k)], k + 1, k + 1, by omega, Nat.le_refl _, hl3, by go_num, by go_num, hown3', hg3', HC'.out⟩
            case measure => simp [intOf]; omega
      · have HC' : Hid (L0 ++ cutR s a b (s.size - (k + 1)) f (k + 1) = cutR s a b s.size 0 0) := hid (by
          have := HC.out
          rw [cutR, if_neg (by rw [HB.out]; exact hab)] at this
          exact this)
        have q1 : ((s[k].toNat : Int) == a) = false := by simp; intro h; exact hab (.inl h)
        have q2 : ((s[k].toNat : Int) == b) = false := by simp; intro h; exact hab (.inr h)
        clear hab
        go_wp2
        go_roundw
        case rel => exact ⟨L0, f, k + 1, by omega, by omega, by omega, by go_num, rfl, hown, hg, HC'.out⟩
        case measure => simp [intOf]; omega
    · have e : s.size - k = 0 := by omega
      rw [e] at HC
      have HC' : Hid (L0 = cutR s a b s.size 0 0) := hid (by have := HC.out; simpa [cutR] using this)
      go_wp2
      go_ret
      exact ⟨_, rfl, by rw [← HC'.out]; exact hown, hg⟩

end Go.Proofs.YthlhbjnkohinmaaGreat
