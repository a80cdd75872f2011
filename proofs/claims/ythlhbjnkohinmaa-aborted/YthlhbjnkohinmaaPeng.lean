/- The program's engine, as plain data, and what its calls do to it. -/
import Derived.Test.YthlhbjnkohinmaaRd
import Derived.Laws.BytesArg
namespace Go.Proofs.Ythlhbjnkohinmaa
open Go.RowKit

/-- Is the text a cell? -/
def cellB (s : ByteArray) : Bool := s.size == 2 && clsB (bt s 0) && digB (bt s 1)
/-- Is the text a fact? -/
def factB (s : ByteArray) : Bool := s.size == 3 && clsB (bt s 0) && digB (bt s 1) && digB (bt s 2)
/-- Texts one behind the other. -/
def joined (l : List ByteArray) : ByteArray := l.foldl (· ++ ·) ByteArray.empty
theorem joined_snoc (l : List ByteArray) (x : ByteArray) : joined (l ++ [x]) = joined l ++ x := by simp [joined]

/-- What was written last to a cell: nothing, or what it has since. -/
abbrev PW := Option (Option Int)
/-- A session of the program's; mks: the block of its marks, once it has some. -/
structure PSes where
  num : Int
  snap : Int
  made : Int
  wr : Nat → PW
  tm : Nat → Int
  mks : Option Nat
/-- The rules of an engine: their value and the engine's room, their text, and where they stand in it. -/
abbrev Src := (Value × Int) × ByteArray × List (Nat × List Nat × List Nat)
/-- The program's engine. -/
structure PEng where
  src : Src
  opened : Int
  ses : Nat → PSes
  latest : Int
  last : Nat → Int
  hist : Nat → List (Int × Option Int)

def PEng.room (X : PEng) : Int := X.src.1.2
/-- How many versions the first cells keep. -/
def keptN (X : PEng) : Nat → Nat
  | 0 => 0
  | n + 1 => keptN X n + (X.hist n).length
/-- How many of the first cells a session wrote to. -/
def writN (S : PSes) : Nat → Nat
  | 0 => 0
  | n + 1 => writN S n + (if (S.wr n).isSome then 1 else 0)
theorem writN_le (S : PSes) : ∀ n, writN S n ≤ n
  | 0 => Nat.le_refl 0
  | n + 1 => by
    have := writN_le S n
    show writN S n + (if (S.wr n).isSome then 1 else 0) ≤ n + 1
    split <;> omega
theorem keptN_same {X Y : PEng} (h : Y.hist = X.hist) : ∀ n, keptN Y n = keptN X n
  | 0 => rfl
  | n + 1 => by unfold keptN; rw [keptN_same h n, h]
theorem keptN_mono (X : PEng) : ∀ {m n : Nat}, m ≤ n → keptN X m ≤ keptN X n
  | m, 0, h => by
    have : m = 0 := by omega
    subst this
    exact Nat.le_refl _
  | m, n + 1, h => by
    by_cases e : m = n + 1
    · subst e; exact Nat.le_refl _
    · have := keptN_mono X (m := m) (n := n) (by omega)
      show keptN X m ≤ keptN X n + (X.hist n).length
      omega
def PSes.zero : PSes := ⟨0, 0, 0, fun _ => none, fun _ => 0, none⟩
/-- A session that was just opened. -/
def PSes.new (n t : Int) : PSes := ⟨n, t, 0, fun _ => none, fun _ => 0, none⟩
def upd {α : Type} (f : Nat → α) (k : Nat) (v : α) : Nat → α := fun j => if j = k then v else f j
theorem upd_same {α : Type} (f : Nat → α) (k : Nat) (v : α) : upd f k v k = v := by simp [upd]
theorem upd_ne {α : Type} (f : Nat → α) (k : Nat) (v : α) {j : Nat} (h : j ≠ k) : upd f k v j = f j := by simp [upd, h]
def PEng.setSes (X : PEng) (k : Nat) (s : PSes) : PEng := { X with ses := upd X.ses k s }
def PSes.put (S : PSes) (c : Nat) (v : Option Int) : PSes := { S with made := S.made + 1, wr := upd S.wr c (some v), tm := upd S.tm c (S.snap + (S.made + 1)) }

def numberedP (X : PEng) (n : Int) : Option Nat := (List.range 8).find? fun k => (X.ses k).num == n
def findP (X : PEng) (n : Int) : Option Nat := if n < 1 then none else numberedP X n
theorem numberedP_some {X : PEng} {n : Int} {k : Nat} (h : numberedP X n = some k) : k < 8 ∧ (X.ses k).num = n := by
  unfold numberedP at h
  have h1 := List.mem_of_find?_eq_some h
  have h2 := List.find?_some h
  exact ⟨by simpa using h1, by simpa using h2⟩
theorem numberedP_none {X : PEng} {n : Int} (h : numberedP X n = none) : ∀ k, k < 8 → (X.ses k).num ≠ n := by
  unfold numberedP at h
  rw [List.find?_eq_none] at h
  intro k hk
  simpa using h k (by simpa using hk)

def popenF (X : PEng) : (Int × Int) × PEng := match numberedP X 0 with
  | none => ((0, 7), X)
  | some k => ((X.opened + 1, 0), { X with opened := X.opened + 1, ses := upd X.ses k (.new (X.opened + 1) X.latest) })
/-- The number of the cell that a text begins with. -/
def cellN (s : ByteArray) : Nat := ((bt s 0 - 97) * 10 + (bt s 1 - 48)).toNat
def pputF (X : PEng) (n : Int) (s : ByteArray) : Int × PEng := match findP X n with
  | none => (6, X)
  | some k => if factB s then (0, X.setSes k ((X.ses k).put (cellN s) (some (bt s 2 - 48)))) else (8, X)
def pclearF (X : PEng) (n : Int) (s : ByteArray) : Int × PEng := match findP X n with
  | none => (6, X)
  | some k => if cellB s then (0, X.setSes k ((X.ses k).put (cellN s) none)) else (8, X)
def histAt (h : List (Int × Option Int)) (t : Int) : Option Int := match h.reverse.find? (fun p => decide (p.1 ≤ t)) with
  | some p => p.2
  | none => none
/-- The version that a cell has at a stamp; its stamp is 0 if there is none. -/
def histV (h : List (Int × Option Int)) (t : Int) : Int × Option Int := match h.reverse.find? (fun p => decide (p.1 ≤ t)) with
  | some p => p
  | none => (0, none)
theorem histV_two (h : List (Int × Option Int)) (t : Int) : (histV h t).2 = histAt h t := by
  unfold histV histAt
  cases h.reverse.find? (fun p => decide (p.1 ≤ t)) <;> rfl
def seenP (X : PEng) (k c : Nat) : Option Int := match (X.ses k).wr c with
  | some v => v
  | none => histAt (X.hist c) (X.ses k).snap
def factP (c : Nat) (v : Int) : ByteArray := strOfNums [97 + (c : Int) / 10, 48 + (c : Int) % 10, 48 + v]
def viewP (X : PEng) (k : Nat) : ByteArray := joined ((List.range 60).filterMap fun c => (seenP X k c).map (factP c))
def pviewF (X : PEng) (n : Int) : ByteArray × Int := match findP X n with
  | none => (ByteArray.empty, 6)
  | some k => (viewP X k, 0)
def pabortF (X : PEng) (n : Int) : Int × PEng := match findP X n with
  | none => (6, X)
  | some k => (0, X.setSes k .zero)
def hasW (S : PSes) : Bool := (List.range 60).any fun c => (S.wr c).isSome
/-- How many writes were made fits which cells were written. -/
def PSes.ok (S : PSes) : Prop := 0 ≤ S.made ∧ decide (0 < S.made) = hasW S
def clash (X : PEng) (S : PSes) : Bool := (List.range 60).any fun c => (S.wr c).isSome && decide (X.last c > S.snap)
def PEng.commit (X : PEng) (S : PSes) : PEng := { X with
  latest := X.latest + 1
  last := fun c => if (S.wr c).isSome then X.latest + 1 else X.last c
  hist := fun c => match S.wr c with | some v => X.hist c ++ [(X.latest + 1, v)] | none => X.hist c }
def pcommitF (X : PEng) (n : Int) : (Int × Int) × PEng := match findP X n with
  | none => ((0, 6), X)
  | some k => if hasW (X.ses k) then (if clash X (X.ses k) then ((0, 10), X.setSes k .zero) else ((X.latest + 1, 0), (X.setSes k .zero).commit (X.ses k))) else ((0, 0), X.setSes k .zero)

end Go.Proofs.Ythlhbjnkohinmaa
