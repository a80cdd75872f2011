/- The program's engine, as New makes it. -/
import Derived.Test.YthlhbjnkohinmaaPmem
namespace Go.Proofs.Ythlhbjnkohinmaa
open Go.RowKit

theorem flatm_len {α : Type} {m : Nat} {f : Nat → List α} (hf : ∀ c, (f c).length = m) : ∀ n, ((List.range n).flatMap f).length = n * m
  | 0 => by simp
  | n + 1 => by rw [List.range_succ, List.flatMap_append, List.length_append, flatm_len hf n]; simp [hf, Nat.add_mul]
theorem flatm_at {α : Type} {m : Nat} {f : Nat → List α} (hf : ∀ c, (f c).length = m) {c j : Nat} (hj : j < m) : ∀ n, c < n → ((List.range n).flatMap f)[c * m + j]? = (f c)[j]?
  | 0, h => by omega
  | n + 1, h => by
    rw [List.range_succ, List.flatMap_append]
    by_cases e : c = n
    · subst e
      rw [List.getElem?_append_right (by rw [flatm_len hf]; omega), flatm_len hf]
      simp
    · have h1 : c * m + j < n * m := by
        have : (c + 1) * m ≤ n * m := Nat.mul_le_mul_right m (by omega)
        rw [Nat.add_mul] at this
        omega
      rw [List.getElem?_append_left (by rw [flatm_len hf]; exact h1)]
      exact flatm_at hf hj n (by omega)
/-- An engine that was just made. -/
def X0 (r : Src) : PEng := ⟨r, 0, fun _ => .zero, 0, fun _ => 0, fun _ => []⟩
def kv0 : Nat → Value := fun _ => .slice none 0 0
def zeroEng : List Value := [.slice none 0 0, .int .i64 0, .int .i64 0] ++ ((List.range 8).flatMap (fun _ => sesCells .zero) ++ (.int .i64 0 :: (List.range 60).flatMap (fun _ => [.int .i64 0, .slice none 0 0])))
theorem zero_eng : Try.zeroCells93.toList = zeroEng := by kernel_rfl
theorem zeroEng_ses {k j : Nat} (hk : k < 8) (hj : j < 244) : zeroEng[3 + k * 244 + j]? = (sesCells .zero)[j]? := by
  unfold zeroEng
  rw [List.getElem?_append_right (by simp; omega), List.getElem?_append_left (by rw [flatm_len (fun _ => sesCells_len _)]; simp; omega)]
  have := flatm_at (f := fun _ => sesCells .zero) (m := 244) (fun _ => sesCells_len _) (c := k) (j := j) hj 8 hk
  rw [← this]
  congr 1
  simp
  omega
theorem zeroEng_latest : zeroEng[1955]? = some (.int .i64 0) := by
  unfold zeroEng
  rw [List.getElem?_append_right (by simp), List.getElem?_append_right (by rw [flatm_len (fun _ => sesCells_len _)]; simp), flatm_len (fun _ => sesCells_len _)]
  rfl
theorem zeroEng_hist {c j : Nat} (hc : c < 60) (hj : j < 2) : zeroEng[1955 + 1 + c * 2 + j]? = ([.int .i64 0, .slice none 0 0] : List Value)[j]? := by
  unfold zeroEng
  rw [List.getElem?_append_right (by simp; omega), List.getElem?_append_right (by rw [flatm_len (fun _ => sesCells_len _)]; simp; omega), flatm_len (fun _ => sesCells_len _)]
  have := flatm_at (f := fun _ => ([.int .i64 0, .slice none 0 0] : List Value)) (m := 2) (fun _ => rfl) (c := c) (j := j) hj 60 hc
  rw [← this, show 1955 + 1 + c * 2 + j - [Value.slice none 0 0, Value.int .i64 0, Value.int .i64 0].length - 8 * 244 = c * 2 + j + 1 by simp; omega]
  rfl
theorem each_zero (r : Src) (w : World) : ∀ l : List Nat, EachA HistA (l.map kv0) (l.map (X0 r).hist) w []
  | [] => rfl
  | _ :: l => ⟨[], [], RowA.nil _ _ _, each_zero r w l, rfl⟩
theorem fresh_prog {w : World} {g : Nat} {v : Value} {u : Int} (r : ByteArray × List (Nat × List Nat × List Nat)) (hb : w.heap[g]? = some (.cells ((Try.zeroCells93.setIfInBounds 0 v).setIfInBounds 1 (.int .i64 u)) 93 (0, 0))) : PEngA g (X0 ((v, u), r)) w [g] := by
  have hc : ∀ i, 2 ≤ i → w.cell? ⟨g, i, none⟩ = zeroEng[i]? := by
    intro i hi
    rw [cell_of_row _ _ _ _ _ _ hb, Array.getElem?_setIfInBounds_ne (by omega), Array.getElem?_setIfInBounds_ne (by omega), ← zero_eng]
    simp
  have hz : 1 < Try.zeroCells93.size := by
    have := congrArg List.length zero_eng
    simp only [Array.length_toList] at this
    rw [this]
    simp [zeroEng]
  refine ⟨kv0, ⟨⟨_, hb⟩, ?_, ?_, ?_, ?_, ?_⟩, [], ?_, rfl⟩
  · rw [cell_of_row _ _ _ _ _ _ hb, Array.getElem?_setIfInBounds_ne (by omega), Array.getElem?_setIfInBounds_self_of_lt (by omega)]
    rfl
  · rw [cell_of_row _ _ _ _ _ _ hb, Array.getElem?_setIfInBounds_self_of_lt (by simp)]
    rfl
  · rw [hc 2 (by omega)]; rfl
  · intro k hk
    refine .of (fun j v hv => ?_) ok_zero
    have hj : j < 244 := by
      have := (List.getElem?_eq_some_iff.1 hv).1
      rw [sesCells_len] at this
      exact this
    rw [hc _ (by omega), zeroEng_ses hk hj]
    exact hv
  · refine ⟨?_, fun c hcl => ?_, fun c hcl => ?_⟩
    · rw [hc 1955 (by omega)]; exact zeroEng_latest
    · rw [hc _ (by omega)]; exact zeroEng_hist (j := 0) hcl (by omega)
    · rw [hc _ (by omega)]; exact zeroEng_hist (j := 1) hcl (by omega)
  · exact each_zero _ w _

end Go.Proofs.Ythlhbjnkohinmaa
