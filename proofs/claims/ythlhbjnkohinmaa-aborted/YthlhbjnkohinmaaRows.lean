/-
  No cell of these rows narrows 'for every input' (looked for: loops, veiled, ifaces, maps, wideKeys, modest, calm, conditions, laid).
  DERIVED. THE GIVEN ROWS OF THIS SEAT. 6 by the template 'for every input the law returns true; each argument reads behind the call as it read before'; 0 by the template 'total and deterministic' (their statements: YthlhbjnkohinmaaTotals.lean).
  GIVEN WITH THE SEED: the statements are not yours to turn. If you find one false, say at which input.
  Laid BY PROGRAM, IN A SANDBOX (cutbox-rows.mjs): the forced cells as the released guide's own fill.sh prints them over the translation 946c5e05f0b4b610… (all of the seat's roots in one cut). By AI agents, Wed Nov 11 2026. No macro, syntax, notation, axiom, sorry.
-/
import Derived.Test.YthlhbjnkohinmaaChecked
import GoSem.Claim
import GoSem.ClaimJoined
import GoSem.ClaimMapViews
import Derived.JoinedTies
import Derived.KernelRfl
namespace Go.Proofs.Ythlhbjnkohinmaa
/- THE CELL 'sum', in the pinned program and in every row, IS THE sha256 OF THE DUMP (.gsa) THAT YthlhbjnkohinmaaProg.lean LOADS. Nothing in Lean hashes anything: it is a label: what it is worth is what the hold of that sum in a sandbox is worth. -/
noncomputable def Try.pinned : Pinned := { name := "ythlhbjnkohinmaa", sum := "946c5e05f0b4b610bbff8734744b50683cbc1b94660058faabbb35b58249a3e0", checked := Try.checked }
namespace Rows
def none {H : Type} : Left H := { results := [], args := [] }

/-- 'preceptkeep.Serial': WHATEVER THE INPUT: true; the input reads as it did. -/
def serialSpec : ChangeSpec := { name := "serial", fn := fun _ => fun
  | [d] => { results := [.lit (.bool true)], args := [d] }
  | _ => none }
def serialRow : OpenClaim := { program := "ythlhbjnkohinmaa", sum := "946c5e05f0b4b610bbff8734744b50683cbc1b94660058faabbb35b58249a3e0", func := "precept/preceptkeep.Serial", spec := "serial", recurses := true, apart := false }
def SerialSaid : Prop := serialRow.holds Try.pinned (OpenSpec.ofChange serialSpec)

/-- ITS FALSE NEIGHBOUR: 'it returns false'. Refute it at one input. -/
def serialWrong : ChangeSpec := { name := "serial", fn := fun _ => fun
  | [d] => { results := [.lit (.bool false)], args := [d] }
  | _ => none }
def SerialWrongFalsely : Prop := serialRow.holds Try.pinned (OpenSpec.ofChange serialWrong)

/-- 'preceptkeep.Isolated': WHATEVER THE INPUT: true; the input reads as it did. -/
def isolatedSpec : ChangeSpec := { name := "isolated", fn := fun _ => fun
  | [d1, d2, d3, d4] => { results := [.lit (.bool true)], args := [d1, d2, d3, d4] }
  | _ => none }
def isolatedRow : OpenClaim := { program := "ythlhbjnkohinmaa", sum := "946c5e05f0b4b610bbff8734744b50683cbc1b94660058faabbb35b58249a3e0", func := "precept/preceptkeep.Isolated", spec := "isolated", recurses := true, apart := false }
def IsolatedSaid : Prop := isolatedRow.holds Try.pinned (OpenSpec.ofChange isolatedSpec)

/-- ITS FALSE NEIGHBOUR: 'it returns false'. Refute it at one input. -/
def isolatedWrong : ChangeSpec := { name := "isolated", fn := fun _ => fun
  | [d1, d2, d3, d4] => { results := [.lit (.bool false)], args := [d1, d2, d3, d4] }
  | _ => none }
def IsolatedWrongFalsely : Prop := isolatedRow.holds Try.pinned (OpenSpec.ofChange isolatedWrong)

/-- 'preceptkeep.Steps': WHATEVER THE INPUT: true; the input reads as it did. -/
def stepsSpec : ChangeSpec := { name := "steps", fn := fun _ => fun
  | [d1, d2, d3, d4, d5] => { results := [.lit (.bool true)], args := [d1, d2, d3, d4, d5] }
  | _ => none }
def stepsRow : OpenClaim := { program := "ythlhbjnkohinmaa", sum := "946c5e05f0b4b610bbff8734744b50683cbc1b94660058faabbb35b58249a3e0", func := "precept/preceptkeep.Steps", spec := "steps", recurses := true, apart := false }
def StepsSaid : Prop := stepsRow.holds Try.pinned (OpenSpec.ofChange stepsSpec)

/-- ITS FALSE NEIGHBOUR: 'it returns false'. Refute it at one input. -/
def stepsWrong : ChangeSpec := { name := "steps", fn := fun _ => fun
  | [d1, d2, d3, d4, d5] => { results := [.lit (.bool false)], args := [d1, d2, d3, d4, d5] }
  | _ => none }
def StepsWrongFalsely : Prop := stepsRow.holds Try.pinned (OpenSpec.ofChange stepsWrong)

/-- 'preceptkeep.Settled': WHATEVER THE INPUT: true; the input reads as it did. -/
def settledSpec : ChangeSpec := { name := "settled", fn := fun _ => fun
  | [d1, d2, d3, d4] => { results := [.lit (.bool true)], args := [d1, d2, d3, d4] }
  | _ => none }
def settledRow : OpenClaim := { program := "ythlhbjnkohinmaa", sum := "946c5e05f0b4b610bbff8734744b50683cbc1b94660058faabbb35b58249a3e0", func := "precept/preceptkeep.Settled", spec := "settled", recurses := true, apart := false }
def SettledSaid : Prop := settledRow.holds Try.pinned (OpenSpec.ofChange settledSpec)

/-- ITS FALSE NEIGHBOUR: 'it returns false'. Refute it at one input. -/
def settledWrong : ChangeSpec := { name := "settled", fn := fun _ => fun
  | [d1, d2, d3, d4] => { results := [.lit (.bool false)], args := [d1, d2, d3, d4] }
  | _ => none }
def SettledWrongFalsely : Prop := settledRow.holds Try.pinned (OpenSpec.ofChange settledWrong)

/-- 'preceptkeep.Aborted': WHATEVER THE INPUT: true; the input reads as it did. -/
def abortedSpec : ChangeSpec := { name := "aborted", fn := fun _ => fun
  | [d1, d2, d3] => { results := [.lit (.bool true)], args := [d1, d2, d3] }
  | _ => none }
def abortedRow : OpenClaim := { program := "ythlhbjnkohinmaa", sum := "946c5e05f0b4b610bbff8734744b50683cbc1b94660058faabbb35b58249a3e0", func := "precept/preceptkeep.Aborted", spec := "aborted", recurses := true, apart := false }
def AbortedSaid : Prop := abortedRow.holds Try.pinned (OpenSpec.ofChange abortedSpec)

/-- ITS FALSE NEIGHBOUR: 'it returns false'. Refute it at one input. -/
def abortedWrong : ChangeSpec := { name := "aborted", fn := fun _ => fun
  | [d1, d2, d3] => { results := [.lit (.bool false)], args := [d1, d2, d3] }
  | _ => none }
def AbortedWrongFalsely : Prop := abortedRow.holds Try.pinned (OpenSpec.ofChange abortedWrong)

/-- 'preceptkeep.Swept': WHATEVER THE INPUT: true; the input reads as it did. -/
def sweptSpec : ChangeSpec := { name := "swept", fn := fun _ => fun
  | [d1, d2, d3, d4] => { results := [.lit (.bool true)], args := [d1, d2, d3, d4] }
  | _ => none }
def sweptRow : OpenClaim := { program := "ythlhbjnkohinmaa", sum := "946c5e05f0b4b610bbff8734744b50683cbc1b94660058faabbb35b58249a3e0", func := "precept/preceptkeep.Swept", spec := "swept", recurses := true, apart := false }
def SweptSaid : Prop := sweptRow.holds Try.pinned (OpenSpec.ofChange sweptSpec)

/-- ITS FALSE NEIGHBOUR: 'it returns false'. Refute it at one input. -/
def sweptWrong : ChangeSpec := { name := "swept", fn := fun _ => fun
  | [d1, d2, d3, d4] => { results := [.lit (.bool false)], args := [d1, d2, d3, d4] }
  | _ => none }
def SweptWrongFalsely : Prop := sweptRow.holds Try.pinned (OpenSpec.ofChange sweptWrong)

/- THE SECOND FORM. 'bulk': how many values and letters a reading holds, each counted each time it is reached (what is shared counts as often as it is met; a slice's spare places count too). A statement '..UptoSaid' is the law's where the arguments, and the package variables that the reading takes, are together of bulk at most 1048576: NARROWER than '..Said'. Prove '..Said' where nothing that the law and all that it calls make is longer than what came in: it says more and counts as full. Else prove '..UptoSaid'. A law counts once. -/
mutual
def uptoBulk {H : Type} : DataW H → Nat
  | .lit (.string bytes) => bytes.length + 1
  | .lit _ => 1
  | .nil => 1
  | .ptr d => uptoBulk d + 1
  | .slice elems spare => uptoBulkAll elems + uptoBulkAll spare + 1
  | .agg parts => uptoBulkAll parts + 1
  | .iface _ d => uptoBulk d + 1
  | .map entries => uptoBulkEntries entries + 1
  | .held _ => 1
def uptoBulkAll {H : Type} : List (DataW H) → Nat
  | [] => 0
  | d :: r => uptoBulk d + uptoBulkAll r
def uptoBulkEntries {H : Type} : List (Lit × DataW H) → Nat
  | [] => 0
  | x :: r => uptoBulkEntry x + uptoBulkEntries r
def uptoBulkEntry {H : Type} : Lit × DataW H → Nat
  | (.string bytes, d) => bytes.length + uptoBulk d + 1
  | (_, d) => uptoBulk d + 1
 end
def uptoSmall : (H : Type) → List (DataW H) → Bool := fun _ ds => decide (uptoBulkAll ds ≤ 1048576)
def OpenSpec.upto (s : _root_.Go.ChangeSpec) : _root_.Go.OpenSpec := { _root_.Go.OpenSpec.ofChange s with cond := some uptoSmall }

/-- 'preceptkeep.Serial', WHERE WHAT IT READS IS OF BULK AT MOST 1048576: true; the input reads as it did. -/
def serialUptoRow : OpenClaim := { program := "ythlhbjnkohinmaa", sum := "946c5e05f0b4b610bbff8734744b50683cbc1b94660058faabbb35b58249a3e0", func := "precept/preceptkeep.Serial", spec := "serial", recurses := true, apart := false, narrowed := true }
def SerialUptoSaid : Prop := serialUptoRow.holds Try.pinned (OpenSpec.upto serialSpec)

/-- 'preceptkeep.Isolated', WHERE WHAT IT READS IS OF BULK AT MOST 1048576: true; the input reads as it did. -/
def isolatedUptoRow : OpenClaim := { program := "ythlhbjnkohinmaa", sum := "946c5e05f0b4b610bbff8734744b50683cbc1b94660058faabbb35b58249a3e0", func := "precept/preceptkeep.Isolated", spec := "isolated", recurses := true, apart := false, narrowed := true }
def IsolatedUptoSaid : Prop := isolatedUptoRow.holds Try.pinned (OpenSpec.upto isolatedSpec)

/-- 'preceptkeep.Steps', WHERE WHAT IT READS IS OF BULK AT MOST 1048576: true; the input reads as it did. -/
def stepsUptoRow : OpenClaim := { program := "ythlhbjnkohinmaa", sum := "946c5e05f0b4b610bbff8734744b50683cbc1b94660058faabbb35b58249a3e0", func := "precept/preceptkeep.Steps", spec := "steps", recurses := true, apart := false, narrowed := true }
def StepsUptoSaid : Prop := stepsUptoRow.holds Try.pinned (OpenSpec.upto stepsSpec)

/-- 'preceptkeep.Settled', WHERE WHAT IT READS IS OF BULK AT MOST 1048576: true; the input reads as it did. -/
def settledUptoRow : OpenClaim := { program := "ythlhbjnkohinmaa", sum := "946c5e05f0b4b610bbff8734744b50683cbc1b94660058faabbb35b58249a3e0", func := "precept/preceptkeep.Settled", spec := "settled", recurses := true, apart := false, narrowed := true }
def SettledUptoSaid : Prop := settledUptoRow.holds Try.pinned (OpenSpec.upto settledSpec)

/-- 'preceptkeep.Aborted', WHERE WHAT IT READS IS OF BULK AT MOST 1048576: true; the input reads as it did. -/
def abortedUptoRow : OpenClaim := { program := "ythlhbjnkohinmaa", sum := "946c5e05f0b4b610bbff8734744b50683cbc1b94660058faabbb35b58249a3e0", func := "precept/preceptkeep.Aborted", spec := "aborted", recurses := true, apart := false, narrowed := true }
def AbortedUptoSaid : Prop := abortedUptoRow.holds Try.pinned (OpenSpec.upto abortedSpec)

/-- 'preceptkeep.Swept', WHERE WHAT IT READS IS OF BULK AT MOST 1048576: true; the input reads as it did. -/
def sweptUptoRow : OpenClaim := { program := "ythlhbjnkohinmaa", sum := "946c5e05f0b4b610bbff8734744b50683cbc1b94660058faabbb35b58249a3e0", func := "precept/preceptkeep.Swept", spec := "swept", recurses := true, apart := false, narrowed := true }
def SweptUptoSaid : Prop := sweptUptoRow.holds Try.pinned (OpenSpec.upto sweptSpec)

end Rows
end Go.Proofs.Ythlhbjnkohinmaa
