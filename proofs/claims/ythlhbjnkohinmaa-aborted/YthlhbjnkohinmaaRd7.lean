/- The reader's rule and rules. (Written by program: wip/tools/mk_rd7.py.) -/
import Derived.Test.YthlhbjnkohinmaaRd6
namespace Go.Proofs.Ythlhbjnkohinmaa
open Go.RowKit

theorem own_slice {w : World} {base : Nat} {e : TypeId} {size : Nat} {v : Value} {n : Nat} {xs : List Value} (h : w.ownsRow base e size v n xs) : ∃ a m c, v = .slice a m c := by
  rcases h.2 with ⟨rfl, _⟩ | ⟨g, cap, cur, rfl, _⟩
  · exact ⟨_, _, _, rfl⟩
  · exact ⟨_, _, _, rfl⟩
theorem own_mono {w : World} {base base' : Nat} {e : TypeId} {size : Nat} {v : Value} {n : Nat} {xs : List Value} (h : w.ownsRow base e size v n xs) (hb : base' ≤ base) : w.ownsRow base' e size v n xs := by
  rcases h with ⟨h1, h2⟩
  refine ⟨h1, ?_⟩
  rcases h2 with h2 | ⟨g, cap, cur, e1, e2, e3⟩
  · exact .inl h2
  · exact .inr ⟨g, cap, cur, e1, by omega, e3⟩

/-- From the place i on a rule is read: where its conditions and its actions begin, where the reader stands then, and whether it went through. -/
def Rul (s : ByteArray) (i : Nat) (L K : List Nat) (j : Nat) (ok : Bool) : Prop :=
  (digB (bt s i) = false ∧ L = [] ∧ K = [] ∧ j = i ∧ ok = false) ∨
  (digB (bt s i) = true ∧ ¬ bt s (i + 1) = 58 ∧ L = [] ∧ K = [] ∧ j = i + 1 ∧ ok = false) ∨
  (digB (bt s i) = true ∧ bt s (i + 1) = 58 ∧ Cds s (i + 2) L j false ∧ K = [] ∧ ok = false) ∨
  (∃ j1, digB (bt s i) = true ∧ bt s (i + 1) = 58 ∧ Cds s (i + 2) L j1 true ∧ Acs s j1 K j ok)
theorem Rul.weight {s : ByteArray} {i : Nat} (h : digB (bt s i) = false) : Rul s i [] [] i false := .inl ⟨h, rfl, rfl, rfl, rfl⟩
theorem Rul.colon {s : ByteArray} {i : Nat} (h : digB (bt s i) = true) (h1 : ¬ bt s (i + 1) = 58) : Rul s i [] [] (i + 1) false := .inr (.inl ⟨h, h1, rfl, rfl, rfl, rfl⟩)
theorem Rul.conds {s : ByteArray} {i : Nat} {L : List Nat} {j : Nat} (h : digB (bt s i) = true) (h1 : bt s (i + 1) = 58) (h2 : Cds s (i + 2) L j false) : Rul s i L [] j false := .inr (.inr (.inl ⟨h, h1, h2, rfl, rfl⟩))
theorem Rul.acts {s : ByteArray} {i : Nat} {L K : List Nat} {j j' : Nat} {ok : Bool} (h : digB (bt s i) = true) (h1 : bt s (i + 1) = 58) (h2 : Cds s (i + 2) L j true) (h3 : Acs s j K j' ok) : Rul s i L K j' ok := .inr (.inr (.inr ⟨j, h, h1, h2, h3⟩))
theorem Rul.yes {s : ByteArray} {i : Nat} {L K : List Nat} {j : Nat} (h : Rul s i L K j true) : ∃ j1, digB (bt s i) = true ∧ bt s (i + 1) = 58 ∧ Cds s (i + 2) L j1 true ∧ Acs s j1 K j true := by
  rcases h with ⟨_, _, _, _, e⟩ | ⟨_, _, _, _, _, e⟩ | ⟨_, _, _, _, e⟩ | h
  · cases e
  · cases e
  · cases e
  · exact h

/-- What the reading of a rule leaves. -/
def RulPost (w : World) (b : Nat) (s : ByteArray) (i : Nat) (e : Ending) (w' : World) : Prop :=
  ∃ L K j ok x a1 m1 c1 a2 m2 c2, e = .returned (.tuple #[.agg #[.int .i64 x, .slice a1 m1 c1, .slice a2 m2 c2], .bool ok]) ∧ Rul s i L K j ok ∧
    (ok = true → x = bt s i - 48 ∧ w'.ownsRow w.heap.size 163 7 (.slice a1 m1 c1) L.length (cdsCells s L) ∧ w'.ownsRow w.heap.size 175 8 (.slice a2 m2 c2) K.length (acsCells s K)) ∧ j ≤ 400 ∧ Rd w' b s j ∧ w.grownBy w' (some b)

/-- What is owned stays owned behind three stores into a block of another type. -/
theorem own_set3 {w : World} {base : Nat} {e : TypeId} {size : Nat} {v : Value} {n : Nat} {xs : List Value} {g : Nat} {cs : Array Value} {t : TypeId} {x y z : Value}
    (h : w.ownsRow base e size v n xs) (hk : w.heap[g]? = some (.cells cs t (0, 0))) (ht : e ≠ t) :
    (((w.setCell ⟨g, 0, none⟩ x).setCell ⟨g, 1, none⟩ y).setCell ⟨g, 2, none⟩ z).ownsRow base e size v n xs := by
  have hne : v.ownBlock ≠ some g := by
    rcases h.2 with ⟨rfl, _⟩ | ⟨g', cap, cur, rfl, _, hh, _⟩
    · simp [Value.ownBlock]
    · intro hx
      simp [Value.ownBlock] at hx
      subst hx
      rw [hh] at hk
      simp at hk
      exact ht hk.2
  exact ownsRow_setCell_other (ownsRow_setCell_other (ownsRow_setCell_other h hne _) hne _) hne _

set_option maxHeartbeats 2000000 in
theorem rule_any (s : ByteArray) (b i : Nat) (w : World) (hB : s.size ≤ 400 ∧ i ≤ 400) (hr : Rd w b s i) :
    Calls Try.prog 81 #[.pointer (some ⟨b, 0, none⟩)] w (RulPost w b s i) := by
  have hs := hB.1
  have hl := hr.lt
  have hne : w.heap.size ≠ b := by omega
  by_cases h0 : digB (bt s i) = true
  · have hlt := lt_of_bt (s := s) (i := i) (by intro hx; rw [hx] at h0; exact absurd h0 (by decide))
    by_cases h1 : bt s (i + 1) = 58
    · have hlt1 := lt_of_bt (s := s) (i := i + 1) (by omega)
      replace h1 := hid h1
      go_enter Try.func81, Try.ntmps81
      go_wp2_with fail
      go_at_call 89
      refine (rdigit_yes s b i _ hB (hr.alloc _) h0).mono ?_
      rintro e w1 ⟨rfl, hr1, hg1⟩
      obtain ⟨hc1, hf1⟩ := gcell hg1
      have hn1 : w1.heap.size ≠ b := by have := hr1.lt; omega
      have hzw1 : w.heap.size < w1.heap.size := by have := hg1.size; (try simp at this); omega
      have hyw1 : w.heap.size ≤ w1.heap.size := Nat.le_of_lt hzw1
      have hxw1 : w.heap.size ≠ w1.heap.size := Nat.ne_of_lt hzw1
      have hk1 := hid ((hg1.block w.heap.size (by simp) (by simp; omega)).trans (heap_alloc_new w _))
      go_wp2_with fail
      go_at_call 90
      refine (mark_yes s b (i + 1) _ ⟨hs, by omega⟩ (by repeat' (first | (with_reducible assumption) | (with_reducible refine Rd.alloc ?_ _) | (with_reducible refine Rd.drewN ?_ _) | (with_reducible refine Rd.step ?_) | (with_reducible refine Rd.other ?_ ?_ _) | (simp; omega))) 58 h1.out).mono ?_
      rintro e w2 ⟨rfl, hr2, hg2⟩
      obtain ⟨hc2, hf2⟩ := gcell hg2
      have hn2 : w2.heap.size ≠ b := by have := hr2.lt; omega
      have hzw2 : w.heap.size < w2.heap.size := by have := hg2.size; (try simp at this); omega
      have hyw2 : w.heap.size ≤ w2.heap.size := Nat.le_of_lt hzw2
      have hxw2 : w.heap.size ≠ w2.heap.size := Nat.ne_of_lt hzw2
      have hk2 := hid ((hg2.block w.heap.size (by (try simp); omega) (by simp; omega)).trans hk1.out)
      go_wp2_with fail
      go_at_call 91
      refine (conditions_any s b (i + 2) _ ⟨hs, by omega⟩ (by repeat' (first | (with_reducible assumption) | (with_reducible refine Rd.alloc ?_ _) | (with_reducible refine Rd.drewN ?_ _) | (with_reducible refine Rd.step ?_) | (with_reducible refine Rd.other ?_ ?_ _) | (simp; omega)))).mono ?_
      rintro e w3 ⟨L, j, ok, v, rfl, hcds, hown3, hnil3, hj3, hr3, hg3⟩
      obtain ⟨hc3, hf3⟩ := gcell hg3
      have hzw3 : w.heap.size < w3.heap.size := by have := hg3.size; (try simp at this); omega
      have hk3 := hid ((hg3.block w.heap.size (by (try simp); omega) (by simp; omega)).trans hk2.out)
      cases ok
      · replace hnil3 := hnil3 rfl
        subst hnil3
        go_wp2
        refine bodyPost_ret (v := .tuple #[.agg #[.int .i64 0, .slice none 0 0, .slice none 0 0], .bool false]) (res_ct Try.results81 rfl (Go.heap_setCell_same _ _ 2 _ _ _ (Go.heap_setCell_same _ _ 1 _ _ _ (Go.heap_setCell_same _ _ 0 _ _ _ hk3.out))) Try.underlying130 rfl (by kernel_rfl) rfl) rfl ?_
        refine ⟨L, [], j, false, _, _, _, _, _, _, _, rfl, .conds h0 h1.out hcds, (fun h => by cases h), hj3, ?_, ?_⟩
        · repeat' (first | (with_reducible assumption) | (with_reducible refine Rd.alloc ?_ _) | (with_reducible refine Rd.drewN ?_ _) | (with_reducible refine Rd.step ?_) | (with_reducible refine Rd.other ?_ ?_ _) | (simp; omega))
        · repeat' (first | (with_reducible assumption) | (with_reducible exact grown_refl _ _) | (with_reducible refine grown_set ?_ ?_ _) | (with_reducible refine grown_alloc ?_ _) | (with_reducible refine grown_drewN ?_ _) | (with_reducible refine grown_trans ?_ (by assumption)) | (right; simp; done) | (right; simp; omega) | (left; rfl))
      · replace hown3 := hown3 rfl
        obtain ⟨a1, m1, k1, rfl⟩ := own_slice hown3
        go_wp2_with fail
        go_at_call 92
        refine (actions_any s b j _ ⟨hs, hj3⟩ hr3).mono ?_
        rintro e w4 ⟨K, j', ok, v, rfl, hacs, hown4, hnil4, hj4, hr4, hg4⟩
        obtain ⟨hc4, hf4⟩ := gcell hg4
        have hzw4 : w.heap.size < w4.heap.size := by have := hg4.size; (try simp at this); omega
        have hk4 := hid ((hg4.block w.heap.size hzw3 (by simp; omega)).trans hk3.out)
        have hown34 : w4.ownsRow w.heap.size 163 7 (.slice a1 m1 k1) L.length (cdsCells s L) := own_mono (hown3.kept hg4 (.inr (own_ne hown3 (by have := hr2.lt; omega)))) (by omega)
        have hsh : ∃ a2 m2 k2, v = .slice a2 m2 k2 := by
          cases ok
          · exact ⟨_, _, _, hnil4 rfl⟩
          · exact own_slice (hown4 rfl)
        obtain ⟨a2, m2, k2, rfl⟩ := hsh
        go_wp2
        refine bodyPost_ret (v := .tuple #[.agg #[.int .i64 (bt s i - 48), .slice a1 m1 k1, .slice a2 m2 k2], .bool ok]) (res_ct Try.results81 rfl (Go.heap_setCell_same _ _ 2 _ _ _ (Go.heap_setCell_same _ _ 1 _ _ _ (Go.heap_setCell_same _ _ 0 _ _ _ hk4.out))) Try.underlying130 rfl (by kernel_rfl) rfl) rfl ?_
        refine ⟨L, K, j', ok, _, _, _, _, _, _, _, rfl, .acts h0 h1.out hcds hacs, (fun h => ⟨rfl, ?_, ?_⟩), hj4, ?_, ?_⟩
        · exact own_set3 hown34 hk4.out (by decide)
        · exact own_set3 (own_mono (hown4 h) (by omega)) hk4.out (by decide)
        · repeat' (first | (with_reducible assumption) | (with_reducible refine Rd.alloc ?_ _) | (with_reducible refine Rd.drewN ?_ _) | (with_reducible refine Rd.step ?_) | (with_reducible refine Rd.other ?_ ?_ _) | (simp; omega))
        · repeat' (first | (with_reducible assumption) | (with_reducible exact grown_refl _ _) | (with_reducible refine grown_set ?_ ?_ _) | (with_reducible refine grown_alloc ?_ _) | (with_reducible refine grown_drewN ?_ _) | (with_reducible refine grown_trans ?_ (by assumption)) | (right; simp; done) | (right; simp; omega) | (left; rfl))
    · replace h1 := hid h1
      go_enter Try.func81, Try.ntmps81
      go_wp2_with fail
      go_at_call 89
      refine (rdigit_yes s b i _ hB (hr.alloc _) h0).mono ?_
      rintro e w1 ⟨rfl, hr1, hg1⟩
      obtain ⟨hc1, hf1⟩ := gcell hg1
      have hn1 : w1.heap.size ≠ b := by have := hr1.lt; omega
      have hzw1 : w.heap.size < w1.heap.size := by have := hg1.size; (try simp at this); omega
      have hyw1 : w.heap.size ≤ w1.heap.size := Nat.le_of_lt hzw1
      have hxw1 : w.heap.size ≠ w1.heap.size := Nat.ne_of_lt hzw1
      have hk1 := hid ((hg1.block w.heap.size (by simp) (by simp; omega)).trans (heap_alloc_new w _))
      go_wp2_with fail
      go_at_call 90
      refine (mark_no s b (i + 1) _ ⟨hs, by omega⟩ (by repeat' (first | (with_reducible assumption) | (with_reducible refine Rd.alloc ?_ _) | (with_reducible refine Rd.drewN ?_ _) | (with_reducible refine Rd.step ?_) | (with_reducible refine Rd.other ?_ ?_ _) | (simp; omega))) 58 h1.out).mono ?_
      rintro e w2 ⟨rfl, hr2, hg2⟩
      obtain ⟨hc2, hf2⟩ := gcell hg2
      have hn2 : w2.heap.size ≠ b := by have := hr2.lt; omega
      have hzw2 : w.heap.size < w2.heap.size := by have := hg2.size; (try simp at this); omega
      have hyw2 : w.heap.size ≤ w2.heap.size := Nat.le_of_lt hzw2
      have hxw2 : w.heap.size ≠ w2.heap.size := Nat.ne_of_lt hzw2
      have hk2 := hid ((hg2.block w.heap.size (by (try simp); omega) (by simp; omega)).trans hk1.out)
      go_wp2
      refine bodyPost_ret (v := .tuple #[.agg #[.int .i64 0, .slice none 0 0, .slice none 0 0], .bool false]) (res_ct Try.results81 rfl (Go.heap_setCell_same _ _ 2 _ _ _ (Go.heap_setCell_same _ _ 1 _ _ _ (Go.heap_setCell_same _ _ 0 _ _ _ hk2.out))) Try.underlying130 rfl (by kernel_rfl) rfl) rfl ?_
      refine ⟨[], [], i + 1, false, _, _, _, _, _, _, _, rfl, .colon h0 h1.out, (fun h => by cases h), by omega, ?_, ?_⟩
      · repeat' (first | (with_reducible assumption) | (with_reducible refine Rd.alloc ?_ _) | (with_reducible refine Rd.drewN ?_ _) | (with_reducible refine Rd.step ?_) | (with_reducible refine Rd.other ?_ ?_ _) | (simp; omega))
      · repeat' (first | (with_reducible assumption) | (with_reducible exact grown_refl _ _) | (with_reducible refine grown_set ?_ ?_ _) | (with_reducible refine grown_alloc ?_ _) | (with_reducible refine grown_drewN ?_ _) | (with_reducible refine grown_trans ?_ (by assumption)) | (right; simp; done) | (right; simp; omega) | (left; rfl))
  · have h0 : digB (bt s i) = false := by simpa using h0
    go_enter Try.func81, Try.ntmps81
    go_wp2_with fail
    go_at_call 89
    refine (rdigit_no s b i _ hB (hr.alloc _) h0).mono ?_
    rintro e w1 ⟨rfl, hr1, hg1⟩
    obtain ⟨hc1, hf1⟩ := gcell hg1
    have hn1 : w1.heap.size ≠ b := by have := hr1.lt; omega
    have hzw1 : w.heap.size < w1.heap.size := by have := hg1.size; (try simp at this); omega
    have hyw1 : w.heap.size ≤ w1.heap.size := Nat.le_of_lt hzw1
    have hxw1 : w.heap.size ≠ w1.heap.size := Nat.ne_of_lt hzw1
    have hk1 := hid ((hg1.block w.heap.size (by simp) (by simp; omega)).trans (heap_alloc_new w _))
    go_wp2
    refine bodyPost_ret (v := .tuple #[.agg #[.int .i64 0, .slice none 0 0, .slice none 0 0], .bool false]) (res_ct Try.results81 rfl (Go.heap_setCell_same _ _ 2 _ _ _ (Go.heap_setCell_same _ _ 1 _ _ _ (Go.heap_setCell_same _ _ 0 _ _ _ hk1.out))) Try.underlying130 rfl (by kernel_rfl) rfl) rfl ?_
    refine ⟨[], [], i, false, _, _, _, _, _, _, _, rfl, .weight h0, (fun h => by cases h), hB.2, ?_, ?_⟩
    · repeat' (first | (with_reducible assumption) | (with_reducible refine Rd.alloc ?_ _) | (with_reducible refine Rd.drewN ?_ _) | (with_reducible refine Rd.step ?_) | (with_reducible refine Rd.other ?_ ?_ _) | (simp; omega))
    · repeat' (first | (with_reducible assumption) | (with_reducible exact grown_refl _ _) | (with_reducible refine grown_set ?_ ?_ _) | (with_reducible refine grown_alloc ?_ _) | (with_reducible refine grown_drewN ?_ _) | (with_reducible refine grown_trans ?_ (by assumption)) | (right; simp; done) | (right; simp; omega) | (left; rfl))

end Go.Proofs.Ythlhbjnkohinmaa
