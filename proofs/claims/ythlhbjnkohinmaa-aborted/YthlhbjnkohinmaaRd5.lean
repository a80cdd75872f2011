/- The outcome of the reader's condition and action, as functions of the text and the place. (Written by program: wip/tools/mk_rd4.py.) -/
import Derived.Test.YthlhbjnkohinmaaRd4
namespace Go.Proofs.Ythlhbjnkohinmaa
open Go.RowKit

/-- How many bytes a pattern at i takes, or as many as can stand there. -/
def patLen (s : ByteArray) (i : Nat) : Nat := if clsB (bt s i) then (if terB (bt s (i + 1)) then (if terB (bt s (i + 2)) then 3 else 2) else 1) else 0
def tstLen (s : ByteArray) (i : Nat) : Nat := if simB (bt s i) then (if sgnB (bt s (i + 1)) then (if simB (bt s (i + 2)) then 3 else 2) else 1) else 0
def cdLen (s : ByteArray) (i : Nat) : Nat := if bt s i = 33 then 1 + patLen s (i + 1) else if clsB (bt s i) then patLen s i else tstLen s i
def cdOk (s : ByteArray) (i : Nat) : Bool := if bt s i = 33 then patLen s (i + 1) == 3 else if clsB (bt s i) then patLen s i == 3 else tstLen s i == 3
def patV (kind : Int) (s : ByteArray) (i : Nat) : Cd := ⟨kind, bt s i - 97, 0, opK (bt s (i + 1)), opV (bt s (i + 1)), opK (bt s (i + 2)), opV (bt s (i + 2))⟩
def tstV (s : ByteArray) (i : Nat) : Cd := ⟨3, 0, bt s (i + 1), opK (bt s i), opV (bt s i), opK (bt s (i + 2)), opV (bt s (i + 2))⟩
def cdV (s : ByteArray) (i : Nat) : Cd := if bt s i = 33 then patV 2 s (i + 1) else if clsB (bt s i) then patV 1 s i else tstV s i

/-- How many bytes of a filling (behind its sign) can stand there; whether it is whole. -/
def filLen (s : ByteArray) (i : Nat) : Nat := if clsB (bt s i) then (if simB (bt s (i + 1)) then (if simB (bt s (exJ s (i + 1))) then exJ s (exJ s (i + 1)) - i else exJ s (i + 1) - i) else 1) else 0
def filOk (s : ByteArray) (i : Nat) : Bool := clsB (bt s i) && simB (bt s (i + 1)) && simB (bt s (exJ s (i + 1)))
def empLen (s : ByteArray) (i : Nat) : Nat := if clsB (bt s i) then (if simB (bt s (i + 1)) then exJ s (i + 1) - i else 1) else 0
def empOk (s : ByteArray) (i : Nat) : Bool := clsB (bt s i) && simB (bt s (i + 1))
def acLen (s : ByteArray) (i : Nat) : Nat := if bt s i = 43 then 1 + filLen s (i + 1) else if bt s i = 45 then 1 + empLen s (i + 1) else if bt s i = 46 then 1 else 0
def acOk (s : ByteArray) (i : Nat) : Bool := if bt s i = 43 then filOk s (i + 1) else if bt s i = 45 then empOk s (i + 1) else bt s i == 46
def filV (s : ByteArray) (i : Nat) : Ac := ⟨1, bt s i - 97, opK (bt s (i + 1)), opV (bt s (i + 1)), exS (bt s (i + 1 + 1)), opK (bt s (exJ s (i + 1))), opV (bt s (exJ s (i + 1))), exS (bt s (exJ s (i + 1) + 1))⟩
def empV (s : ByteArray) (i : Nat) : Ac := ⟨2, bt s i - 97, opK (bt s (i + 1)), opV (bt s (i + 1)), exS (bt s (i + 1 + 1)), 0, 0, 0⟩
def acV (s : ByteArray) (i : Nat) : Ac := if bt s i = 43 then filV s (i + 1) else if bt s i = 45 then empV s (i + 1) else ⟨3, 0, 0, 0, 0, 0, 0, 0⟩

theorem exJ_gt (s : ByteArray) (i : Nat) : i < exJ s i := by unfold exJ; split <;> omega
def cd0 : Cd := ⟨0, 0, 0, 0, 0, 0, 0⟩
def ac0 : Ac := ⟨0, 0, 0, 0, 0, 0, 0, 0⟩
/-- What the program's pattern hands back, whole or not. -/
def patX (kind : Int) (s : ByteArray) (i : Nat) : Cd := if clsB (bt s i) then (if terB (bt s (i + 1)) then (if terB (bt s (i + 2)) then patV kind s i else ⟨kind, bt s i - 97, 0, opK (bt s (i + 1)), opV (bt s (i + 1)), 0, 0⟩) else cd0) else cd0
def tstX (s : ByteArray) (i : Nat) : Cd := if simB (bt s i) then (if sgnB (bt s (i + 1)) then (if simB (bt s (i + 2)) then tstV s i else ⟨3, 0, bt s (i + 1), opK (bt s i), opV (bt s i), 0, 0⟩) else cd0) else cd0
def cdX (s : ByteArray) (i : Nat) : Cd := if bt s i = 33 then patX 2 s (i + 1) else if clsB (bt s i) then patX 1 s i else tstX s i
def filX (s : ByteArray) (i : Nat) : Ac := if clsB (bt s i) then (if simB (bt s (i + 1)) then (if simB (bt s (exJ s (i + 1))) then filV s i else ⟨1, bt s i - 97, opK (bt s (i + 1)), opV (bt s (i + 1)), exS (bt s (i + 1 + 1)), 0, 0, 0⟩) else ac0) else ac0
def empX (s : ByteArray) (i : Nat) : Ac := if clsB (bt s i) then (if simB (bt s (i + 1)) then empV s i else ⟨2, bt s i - 97, 0, 0, 0, 0, 0, 0⟩) else ac0
def acX (s : ByteArray) (i : Nat) : Ac := if bt s i = 43 then filX s (i + 1) else if bt s i = 45 then empX s (i + 1) else ⟨3, 0, 0, 0, 0, 0, 0, 0⟩

theorem patX_ok {kind : Int} {s : ByteArray} {i : Nat} (h : patLen s i = 3) : patX kind s i = patV kind s i := by
  unfold patLen at h; unfold patX
  split at h
  · split at h
    · split at h
      · simp [*]
      · omega
    · omega
  · omega
theorem tstX_ok {s : ByteArray} {i : Nat} (h : tstLen s i = 3) : tstX s i = tstV s i := by
  unfold tstLen at h; unfold tstX
  split at h
  · split at h
    · split at h
      · simp [*]
      · omega
    · omega
  · omega
theorem cdX_ok {s : ByteArray} {i : Nat} (h : cdOk s i = true) : cdX s i = cdV s i := by
  unfold cdOk at h; unfold cdX cdV
  by_cases h1 : bt s i = 33
  · simp only [h1, if_true] at h ⊢; exact patX_ok (by simpa using h)
  · by_cases h2 : clsB (bt s i) = true
    · simp only [h1, h2, if_false, if_true] at h ⊢; exact patX_ok (by simpa using h)
    · simp only [h1, h2, if_false] at h ⊢; exact tstX_ok (by simpa using h)
theorem acX_ok {s : ByteArray} {i : Nat} (h : acOk s i = true) : acX s i = acV s i := by
  unfold acOk at h; unfold acX acV
  by_cases h1 : bt s i = 43
  · simp only [h1, if_true] at h ⊢; simp [filOk] at h; simp [filX, h]
  · by_cases h2 : bt s i = 45
    · simp only [h2, if_true] at h ⊢; simp [empOk] at h; simp [empX, h]
    · simp only [h1, h2, if_false]


theorem pat_any (s : ByteArray) (b i : Nat) (w : World) (hB : s.size ≤ 400 ∧ i ≤ 400) (hr : Rd w b s i) (kind : Int) : Calls Try.prog 102 #[.pointer (some ⟨b, 0, none⟩), .int .i64 kind] w (RP w b s (.tuple #[.agg (patX kind s i).arr, .bool (patLen s i == 3)]) (i + patLen s i)) := by
  by_cases h0 : clsB (bt s i) = true
  · by_cases h1 : terB (bt s (i + 1)) = true
    · by_cases h2 : terB (bt s (i + 2)) = true
      · have e : patLen s i = 3 := by simp [patLen, h0, h1, h2]
        have e2 : patX kind s i = patV kind s i := by simp [patX, h0, h1, h2]
        rw [e, e2]; exact pattern_yes s b i w hB hr kind h0 h1 h2
      · have h2 : terB (bt s (i + 2)) = false := by simpa using h2
        have e : patLen s i = 2 := by simp [patLen, h0, h1, h2]
        have e2 : patX kind s i = ⟨kind, bt s i - 97, 0, opK (bt s (i + 1)), opV (bt s (i + 1)), 0, 0⟩ := by simp [patX, h0, h1, h2]
        rw [e, e2]; exact pattern_no2 s b i w hB hr kind h0 h1 h2
    · have h1 : terB (bt s (i + 1)) = false := by simpa using h1
      have e : patLen s i = 1 := by simp [patLen, h0, h1]
      have e2 : patX kind s i = cd0 := by simp [patX, h0, h1]
      rw [e, e2]; exact pattern_no1 s b i w hB hr kind h0 h1
  · have h0 : clsB (bt s i) = false := by simpa using h0
    have e : patLen s i = 0 := by simp [patLen, h0]
    have e2 : patX kind s i = cd0 := by simp [patX, h0]
    rw [e, e2]; exact pattern_no0 s b i w hB hr kind h0

theorem tst_any (s : ByteArray) (b i : Nat) (w : World) (hB : s.size ≤ 400 ∧ i ≤ 400) (hr : Rd w b s i) : Calls Try.prog 103 #[.pointer (some ⟨b, 0, none⟩)] w (RP w b s (.tuple #[.agg (tstX s i).arr, .bool (tstLen s i == 3)]) (i + tstLen s i)) := by
  by_cases h0 : simB (bt s i) = true
  · by_cases h1 : sgnB (bt s (i + 1)) = true
    · by_cases h2 : simB (bt s (i + 2)) = true
      · have e : tstLen s i = 3 := by simp [tstLen, h0, h1, h2]
        have e2 : tstX s i = tstV s i := by simp [tstX, h0, h1, h2]
        rw [e, e2]; exact test_yes s b i w hB hr h0 h1 h2
      · have h2 : simB (bt s (i + 2)) = false := by simpa using h2
        have e : tstLen s i = 2 := by simp [tstLen, h0, h1, h2]
        have e2 : tstX s i = ⟨3, 0, bt s (i + 1), opK (bt s i), opV (bt s i), 0, 0⟩ := by simp [tstX, h0, h1, h2]
        rw [e, e2]; exact test_no2 s b i w hB hr h0 h1 h2
    · have h1 : sgnB (bt s (i + 1)) = false := by simpa using h1
      have e : tstLen s i = 1 := by simp [tstLen, h0, h1]
      have e2 : tstX s i = cd0 := by simp [tstX, h0, h1]
      rw [e, e2]; exact test_no1 s b i w hB hr h0 h1
  · have h0 : simB (bt s i) = false := by simpa using h0
    have e : tstLen s i = 0 := by simp [tstLen, h0]
    have e2 : tstX s i = cd0 := by simp [tstX, h0]
    rw [e, e2]; exact test_no0 s b i w hB hr h0

theorem fil_any (s : ByteArray) (b i : Nat) (w : World) (hB : s.size ≤ 400 ∧ i ≤ 400) (hr : Rd w b s i) : Calls Try.prog 104 #[.pointer (some ⟨b, 0, none⟩)] w (RP w b s (.tuple #[.agg (filX s i).arr, .bool (filOk s i)]) (i + filLen s i)) := by
  by_cases h0 : clsB (bt s i) = true
  · by_cases h1 : simB (bt s (i + 1)) = true
    · have hj1 : i + 1 < exJ s (i + 1) := exJ_gt _ _
      by_cases h2 : simB (bt s (exJ s (i + 1))) = true
      · have hj2 : exJ s (i + 1) < exJ s (exJ s (i + 1)) := exJ_gt _ _
        have e : i + filLen s i = exJ s (exJ s (i + 1)) := by simp [filLen, h0, h1, h2]; omega
        have e2 : filX s i = filV s i := by simp [filX, h0, h1, h2]
        have e3 : filOk s i = true := by simp [filOk, h0, h1, h2]
        rw [e, e2, e3]; exact fill_yes s b i w hB hr h0 h1 h2
      · have h2 : simB (bt s (exJ s (i + 1))) = false := by simpa using h2
        have e : i + filLen s i = exJ s (i + 1) := by simp [filLen, h0, h1, h2]; omega
        have e2 : filX s i = ⟨1, bt s i - 97, opK (bt s (i + 1)), opV (bt s (i + 1)), exS (bt s (i + 1 + 1)), 0, 0, 0⟩ := by simp [filX, h0, h1, h2]
        have e3 : filOk s i = false := by simp [filOk, h0, h1, h2]
        rw [e, e2, e3]; exact fill_no2 s b i w hB hr h0 h1 h2
    · have h1 : simB (bt s (i + 1)) = false := by simpa using h1
      have e : filLen s i = 1 := by simp [filLen, h0, h1]
      have e2 : filX s i = ac0 := by simp [filX, h0, h1]
      have e3 : filOk s i = false := by simp [filOk, h0, h1]
      rw [e, e2, e3]; exact fill_no1 s b i w hB hr h0 h1
  · have h0 : clsB (bt s i) = false := by simpa using h0
    have e : filLen s i = 0 := by simp [filLen, h0]
    have e2 : filX s i = ac0 := by simp [filX, h0]
    have e3 : filOk s i = false := by simp [filOk, h0]
    rw [e, e2, e3]; exact fill_no0 s b i w hB hr h0

theorem emp_any (s : ByteArray) (b i : Nat) (w : World) (hB : s.size ≤ 400 ∧ i ≤ 400) (hr : Rd w b s i) : Calls Try.prog 105 #[.pointer (some ⟨b, 0, none⟩)] w (RP w b s (.tuple #[.agg (empX s i).arr, .bool (empOk s i)]) (i + empLen s i)) := by
  by_cases h0 : clsB (bt s i) = true
  · by_cases h1 : simB (bt s (i + 1)) = true
    · have hj1 : i + 1 < exJ s (i + 1) := exJ_gt _ _
      have e : i + empLen s i = exJ s (i + 1) := by simp [empLen, h0, h1]; omega
      have e2 : empX s i = empV s i := by simp [empX, h0, h1]
      have e3 : empOk s i = true := by simp [empOk, h0, h1]
      rw [e, e2, e3]; exact empty_yes s b i w hB hr h0 h1
    · have h1 : simB (bt s (i + 1)) = false := by simpa using h1
      have e : empLen s i = 1 := by simp [empLen, h0, h1]
      have e2 : empX s i = ⟨2, bt s i - 97, 0, 0, 0, 0, 0, 0⟩ := by simp [empX, h0, h1]
      have e3 : empOk s i = false := by simp [empOk, h0, h1]
      rw [e, e2, e3]; exact empty_no1 s b i w hB hr h0 h1
  · have h0 : clsB (bt s i) = false := by simpa using h0
    have e : empLen s i = 0 := by simp [empLen, h0]
    have e2 : empX s i = ac0 := by simp [empX, h0]
    have e3 : empOk s i = false := by simp [empOk, h0]
    rw [e, e2, e3]; exact empty_no0 s b i w hB hr h0

theorem cond_any (s : ByteArray) (b i : Nat) (w : World) (hB : s.size ≤ 400 ∧ i ≤ 400) (hr : Rd w b s i) : Calls Try.prog 98 #[.pointer (some ⟨b, 0, none⟩)] w (RP w b s (.tuple #[.agg (cdX s i).arr, .bool (cdOk s i)]) (i + cdLen s i)) := by
  have hs := hB.1
  by_cases h : bt s i = 33
  · have hlt : i < s.size := lt_of_bt (by omega)
    have e1 : cdOk s i = (patLen s (i + 1) == 3) := by simp [cdOk, h]
    have e2 : i + cdLen s i = i + 1 + patLen s (i + 1) := by simp [cdLen, h]; omega
    have e3 : cdX s i = patX 2 s (i + 1) := by simp [cdX, h]
    rw [e1, e2, e3]
    exact cond_neg s b i w hB hr h _ _ _ _ _ _ _ _ _ (fun W hW => pat_any s b (i + 1) W ⟨hs, by omega⟩ hW 2)
  · by_cases h1 : clsB (bt s i) = true
    · have e1 : cdOk s i = (patLen s i == 3) := by simp [cdOk, h, h1]
      have e2 : cdLen s i = patLen s i := by simp [cdLen, h, h1]
      have e3 : cdX s i = patX 1 s i := by simp [cdX, h, h1]
      rw [e1, e2, e3]
      exact cond_pat s b i w hB hr h h1 _ _ _ _ _ _ _ _ _ (fun W hW => pat_any s b i W hB hW 1)
    · have h1 : clsB (bt s i) = false := by simpa using h1
      have e1 : cdOk s i = (tstLen s i == 3) := by simp [cdOk, h, h1]
      have e2 : cdLen s i = tstLen s i := by simp [cdLen, h, h1]
      have e3 : cdX s i = tstX s i := by simp [cdX, h, h1]
      rw [e1, e2, e3]
      exact cond_test s b i w hB hr h h1 _ _ _ _ _ _ _ _ _ (fun W hW => tst_any s b i W hB hW)

theorem act_any (s : ByteArray) (b i : Nat) (w : World) (hB : s.size ≤ 400 ∧ i ≤ 400) (hr : Rd w b s i) : Calls Try.prog 99 #[.pointer (some ⟨b, 0, none⟩)] w (RP w b s (.tuple #[.agg (acX s i).arr, .bool (acOk s i)]) (i + acLen s i)) := by
  have hs := hB.1
  by_cases h : bt s i = 43
  · have hlt : i < s.size := lt_of_bt (by omega)
    have e1 : acOk s i = filOk s (i + 1) := by simp [acOk, h]
    have e2 : i + acLen s i = i + 1 + filLen s (i + 1) := by simp [acLen, h]; omega
    have e3 : acX s i = filX s (i + 1) := by simp [acX, h]
    rw [e1, e2, e3]
    exact act_fill s b i w hB hr h _ _ _ _ _ _ _ _ _ _ (fun W hW => fil_any s b (i + 1) W ⟨hs, by omega⟩ hW)
  · by_cases h1 : bt s i = 45
    · have hlt : i < s.size := lt_of_bt (by omega)
      have e1 : acOk s i = empOk s (i + 1) := by simp [acOk, h1]
      have e2 : i + acLen s i = i + 1 + empLen s (i + 1) := by simp [acLen, h1]; omega
      have e3 : acX s i = empX s (i + 1) := by simp [acX, h1]
      rw [e1, e2, e3]
      exact act_empty s b i w hB hr h1 _ _ _ _ _ _ _ _ _ _ (fun W hW => emp_any s b (i + 1) W ⟨hs, by omega⟩ hW)
    · have e3 : acX s i = ⟨3, 0, 0, 0, 0, 0, 0, 0⟩ := by simp [acX, h, h1]
      by_cases h2 : bt s i = 46
      · have e1 : acOk s i = true := by simp [acOk, h2]
        have e2 : acLen s i = 1 := by simp [acLen, h2]
        rw [e1, e2, e3]
        exact act_halt s b i w hB hr h2
      · have e1 : acOk s i = false := by simp [acOk, h, h1, h2]
        have e2 : acLen s i = 0 := by simp [acLen, h, h1, h2]
        rw [e1, e2, e3]
        exact act_none s b i w hB hr h h1 h2


end Go.Proofs.Ythlhbjnkohinmaa
