/- Plain mathematics: the bytes of a text of rules, and the two automata of the document's reading. Nothing of the program is in here. -/
import Derived.WalkKit
namespace Go.Proofs.Ythlhbjnkohinmaa

def digB (c : Int) : Bool := decide (48 ≤ c ∧ c ≤ 57)
def letB (c : Int) : Bool := decide (119 ≤ c ∧ c ≤ 122)
def clsB (c : Int) : Bool := decide (97 ≤ c ∧ c ≤ 102)
def simB (c : Int) : Bool := digB c || letB c
def terB (c : Int) : Bool := simB c || c == 95
def turB (c : Int) : Bool := c == 94 || c == 126

def sgnB (c : Int) : Bool := c == 60 || c == 61 || c == 35
/-- A digit's or a variable's kind and value, as the program keeps them (1: a digit, 2: a variable; 0, 0: neither). -/
def opK (c : Int) : Int := if digB c then 1 else if letB c then 2 else 0
def opV (c : Int) : Int := if digB c then c - 48 else if letB c then c - 119 else 0

/-- An expression's step: one more, one less, or nothing. -/
def exS (c : Int) : Int := if c = 94 then 1 else if c = 126 then -1 else 0

def condsF (q c : Int) : Int :=
  if q = 0 then (if digB c then 1 else -1)
  else if q = 1 then (if c = 58 then 2 else -1)
  else if q = 2 then (if clsB c then 3 else if c = 33 then 5 else if simB c then 6 else -1)
  else if q = 3 then (if terB c then 4 else -1)
  else if q = 4 then (if terB c then 8 else -1)
  else if q = 5 then (if clsB c then 3 else -1)
  else if q = 6 then (if c = 60 ∨ c = 61 ∨ c = 35 then 7 else -1)
  else if q = 7 then (if simB c then 8 else -1)
  else if q = 8 then (if c = 44 then 2 else if c = 62 then 9 else -1)
  else -1

def actsF (q c : Int) : Int :=
  if q = 9 then (if c = 43 then 10 else if c = 45 then 14 else if c = 46 then 17 else -1)
  else if q = 10 then (if clsB c then 11 else -1)
  else if q = 11 then (if simB c then 12 else -1)
  else if q = 12 then (if turB c then 13 else if simB c then 16 else -1)
  else if q = 13 then (if simB c then 16 else -1)
  else if q = 14 then (if clsB c then 15 else -1)
  else if q = 15 then (if simB c then 16 else -1)
  else if q = 16 then (if turB c then 17 else if c = 44 then 9 else if c = 59 then 0 else -1)
  else if q = 17 then (if c = 44 then 9 else if c = 59 then 0 else -1)
  else -1

def stepF (q c : Int) : Int := if q < 9 then condsF q c else actsF q c

theorem ret_int {k : IntKind} {a b : Int} (h : a = b) : Ending.returned (.int k a) = .returned (.int k b) := by rw [h]
theorem ret_bool {a b : Bool} (h : a = b) : Ending.returned (.bool a) = .returned (.bool b) := by rw [h]

end Go.Proofs.Ythlhbjnkohinmaa
