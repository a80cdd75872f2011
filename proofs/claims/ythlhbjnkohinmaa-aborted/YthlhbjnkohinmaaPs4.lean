/- The program's versions in memory: what a cell has at a stamp. -/
import Derived.Test.YthlhbjnkohinmaaPs3
import Derived.Test.YthlhbjnkohinmaaOv
namespace Go.Proofs.Ythlhbjnkohinmaa
open Go.RowKit

def hvCells (l : List (Int × Option Int)) : List Value := l.flatMap fun p => [.int .i64 p.1, .bool p.2.isSome, .int .i64 (p.2.getD 0)]
theorem hvCells_snoc (l : List (Int × Option Int)) (p : Int × Option Int) : hvCells (l ++ [p]) = hvCells l ++ [.int .i64 p.1, .bool p.2.isSome, .int .i64 (p.2.getD 0)] := by simp [hvCells]
theorem hvCells_at : ∀ (l : List (Int × Option Int)) (k : Nat) (hk : k < l.length), (hvCells l)[k * 3]? = some (.int .i64 l[k].1) ∧ (hvCells l)[k * 3 + 1]? = some (.bool l[k].2.isSome) ∧ (hvCells l)[k * 3 + 2]? = some (.int .i64 (l[k].2.getD 0))
  | p :: l, 0, _ => ⟨rfl, rfl, rfl⟩
  | p :: l, k + 1, hk => by
    obtain ⟨h1, h2, h3⟩ := hvCells_at l k (by simpa using hk)
    have e : hvCells (p :: l) = .int .i64 p.1 :: .bool p.2.isSome :: .int .i64 (p.2.getD 0) :: hvCells l := rfl
    rw [e, show (k + 1) * 3 = k * 3 + 1 + 1 + 1 by omega]
    exact ⟨by simpa using h1, by simpa using h2, by simpa using h3⟩

theorem histV_none {l : List (Int × Option Int)} {t : Int} (h : ∀ j (hj : j < l.length), ¬ l[j].1 ≤ t) : histV l t = (0, none) := by
  unfold histV
  have : l.reverse.find? (fun p => decide (p.1 ≤ t)) = none := by
    rw [List.find?_eq_none]
    intro p hp
    obtain ⟨j, hj, rfl⟩ := List.mem_iff_getElem.mp (List.mem_reverse.mp hp)
    simpa using h j hj
  rw [this]
theorem histV_some {l : List (Int × Option Int)} {t : Int} {k : Nat} (hk : k < l.length) (h1 : l[k].1 ≤ t) (h : ∀ j (hj : j < l.length), k < j → ¬ l[j].1 ≤ t) : histV l t = l[k] := by
  unfold histV
  have : l.reverse.find? (fun p => decide (p.1 ≤ t)) = some l[k] := by
    rw [List.find?_eq_some_iff_getElem]
    refine ⟨by simpa using h1, l.length - 1 - k, by simp; omega, ?_, ?_⟩
    · simp only [List.getElem_reverse]
      congr 1
      omega
    · intro j hj
      simp only [List.getElem_reverse, Bool.not_eq_true', decide_eq_false_iff_not]
      exact h _ (by omega) (by omega)
  rw [this]

/-- A version, as a value. -/
def versV (p : Int × Option Int) : Value := .agg #[.int .i64 p.1, .bool p.2.isSome, .int .i64 (p.2.getD 0)]

set_option maxRecDepth 20000 in
set_option maxHeartbeats 1000000 in
theorem hat_any (b o : Nat) (l : List (Int × Option Int)) (t : Int) (a : Option Addr) (m cp : Nat) (w : World) (hl : l.length ≤ 9223372036854775807)
    (hc : w.cell? ⟨b, o + 1, none⟩ = some (.slice a m cp)) (h : w.ownsRow 0 108 3 (.slice a m cp) l.length (hvCells l)) :
    Calls Try.prog 60 #[.pointer (some ⟨b, o, none⟩), .int .i64 t] w fun e w' => e = .returned (versV (histV l t)) ∧ w.grownBy w' none := by
  have em := own_len h
  subst em
  obtain ⟨r, hr⟩ : ∃ r, r = histV l t := ⟨_, rfl⟩
  rw [← hr]
  have HR := hid hr
  clear hr
  have hbl := World.block_lt_of_cell? w _ hc
  have hbz : b ≠ w.heap.size := by simp at hbl; omega
  go_enter Try.func60, Try.ntmps60
  go_wp2_with fail
  go_loop [5] (fun i => ∃ k : Nat, k ≤ l.length ∧ i = .int .i64 ((k : Int) - 1) ∧ ∀ j (h : j < l.length), k ≤ j → ¬ l[j].1 ≤ t) (fun i => (intOf i + 1).toNat)
  case atStart => exact ⟨l.length, Nat.le_refl _, rfl, fun j h1 h2 => by omega⟩
  case round =>
    obtain ⟨k, hk, rfl, hno⟩ := hrel
    have HN := hid hno
    clear hno
    cases k with
    | zero =>
      have HU : Hid (r = (0, none)) := hid (by rw [HR.out]; exact histV_none (fun j hj => HN.out j hj (Nat.zero_le _)))
      go_wp2
      refine bodyPost_ret (v := versV (0, none)) (results_cell_row Try.results60 _ _ _ _ _ _ _ rfl (heap_alloc_new _ _) Try.underlying108 rfl (by kernel_rfl)) rfl ⟨by rw [HU.out], grown_alloc (grown_refl _ _) _⟩
    | succ k =>
      have hlt : k < l.length := by omega
      obtain ⟨g, rfl, _, hgb, hgl, hcell⟩ := own_cell h (by omega)
      have d0 := hcell _ _ (hvCells_at l k hlt).1
      have d1 := hcell _ _ (hvCells_at l k hlt).2.1
      have d2 := hcell _ _ (hvCells_at l k hlt).2.2
      have hk0 : ((k + 1 : Nat) : Int) - 1 = (k : Int) := by omega
      rw [hk0]
      clear hcell
      have hgz : g ≠ w.heap.size := by omega
      obtain ⟨u, hu⟩ : ∃ u, u = l[k].1 := ⟨_, rfl⟩
      obtain ⟨q, hq⟩ : ∃ q, q = l[k].2 := ⟨_, rfl⟩
      rw [← hu] at d0
      rw [← hq] at d1 d2
      have HX := hid hu
      have HQ := hid hq
      clear hu hk0 hq
      by_cases he : u ≤ t
      · have HU : Hid (r = (u, q)) := hid (by rw [HR.out, HQ.out, HX.out]; exact histV_some hlt (by rw [← HX.out]; exact he) (fun j hj hkj => HN.out j hj (by omega)))
        go_wp2
        try simp only [Exit.inBlock, Exit.then]
        refine bodyPost_ret (v := versV (u, q)) (results_cell_row Try.results60 _ _ _ _ _ _ _ rfl (heap_alloc_new _ _) Try.underlying108 rfl (by kernel_rfl)) rfl ⟨by rw [HU.out], grown_alloc (grown_refl _ _) _⟩
      · have HN' : Hid (∀ j (h : j < l.length), k ≤ j → ¬ l[j].1 ≤ t) := hid (by
          intro j hj hkj
          by_cases e : j = k
          · subst e; rw [← HX.out]; exact he
          · exact HN.out j hj (by omega))
        go_wp2
        go_round
        case rel => exact ⟨k, by omega, rfl, HN'.out⟩
        case measure => simp [intOf]

end Go.Proofs.Ythlhbjnkohinmaa
