/-
  No cell of these rows narrows 'for every input' (looked for: loops, veiled, ifaces, maps, wideKeys, modest, calm, conditions, laid).
  DERIVED. THE GIVEN ROWS OF THIS SEAT. 6 by the template 'for every input the law returns true; each argument reads behind the call as it read before'; 0 by the template 'total and deterministic' (their statements: YthlhbjnkohinmaaGreatTotals.lean).
  GIVEN WITH THE SEED: the statements are not yours to turn. If you find one false, say at which input.
  Laid BY PROGRAM, IN A SANDBOX (cutbox-rows.mjs): the forced cells as the released guide's own fill.sh prints them over the translation 4dfde7f932871b44… (all of the seat's roots in one cut). By AI agents, Wed Nov 11 2026. No macro, syntax, notation, axiom, sorry.
-/
import Derived.Test.YthlhbjnkohinmaaGreatChecked
import GoSem.Claim
import GoSem.ClaimJoined
import GoSem.ClaimMapViews
import Derived.JoinedTies
import Derived.KernelRfl
namespace Go.Proofs.YthlhbjnkohinmaaGreat
/- THE CELL 'sum', in the pinned program and in every row, IS THE sha256 OF THE DUMP (.gsa) THAT YthlhbjnkohinmaaGreatProg.lean LOADS. Nothing in Lean hashes anything: it is a label: what it is worth is what the hold of that sum in a sandbox is worth. -/
noncomputable def Tryz.pinned : Pinned := { name := "ythlhbjnkohinmaagreat", sum := "4dfde7f932871b44b6cb6c7fc29acc75f6e1cdc511462f6abb8075d06c73f940", checked := Tryz.checked }
namespace Rows
def none {H : Type} : Left H := { results := [], args := [] }

/-- 'preceptlaw.News': WHATEVER THE INPUT: true; the input reads as it did. -/
def newsSpec : ChangeSpec := { name := "news", fn := fun _ => fun
  | [d] => { results := [.lit (.bool true)], args := [d] }
  | _ => none }
def newsRow : OpenClaim := { program := "ythlhbjnkohinmaagreat", sum := "4dfde7f932871b44b6cb6c7fc29acc75f6e1cdc511462f6abb8075d06c73f940", func := "precept/preceptlaw.News", spec := "news", recurses := true, apart := false }
def NewsSaid : Prop := newsRow.holds Tryz.pinned (OpenSpec.ofChange newsSpec)

/-- ITS FALSE NEIGHBOUR: 'it returns false'. Refute it at one input. -/
def newsWrong : ChangeSpec := { name := "news", fn := fun _ => fun
  | [d] => { results := [.lit (.bool false)], args := [d] }
  | _ => none }
def NewsWrongFalsely : Prop := newsRow.holds Tryz.pinned (OpenSpec.ofChange newsWrong)

/-- 'preceptlaw.Sessions': WHATEVER THE INPUT: true; the input reads as it did. -/
def sessionsSpec : ChangeSpec := { name := "sessions", fn := fun _ => fun
  | [d] => { results := [.lit (.bool true)], args := [d] }
  | _ => none }
def sessionsRow : OpenClaim := { program := "ythlhbjnkohinmaagreat", sum := "4dfde7f932871b44b6cb6c7fc29acc75f6e1cdc511462f6abb8075d06c73f940", func := "precept/preceptlaw.Sessions", spec := "sessions", recurses := true, apart := false }
def SessionsSaid : Prop := sessionsRow.holds Tryz.pinned (OpenSpec.ofChange sessionsSpec)

/-- ITS FALSE NEIGHBOUR: 'it returns false'. Refute it at one input. -/
def sessionsWrong : ChangeSpec := { name := "sessions", fn := fun _ => fun
  | [d] => { results := [.lit (.bool false)], args := [d] }
  | _ => none }
def SessionsWrongFalsely : Prop := sessionsRow.holds Tryz.pinned (OpenSpec.ofChange sessionsWrong)

/-- 'preceptlaw.Commits': WHATEVER THE INPUT: true; the input reads as it did. -/
def commitsSpec : ChangeSpec := { name := "commits", fn := fun _ => fun
  | [d] => { results := [.lit (.bool true)], args := [d] }
  | _ => none }
def commitsRow : OpenClaim := { program := "ythlhbjnkohinmaagreat", sum := "4dfde7f932871b44b6cb6c7fc29acc75f6e1cdc511462f6abb8075d06c73f940", func := "precept/preceptlaw.Commits", spec := "commits", recurses := true, apart := false }
def CommitsSaid : Prop := commitsRow.holds Tryz.pinned (OpenSpec.ofChange commitsSpec)

/-- ITS FALSE NEIGHBOUR: 'it returns false'. Refute it at one input. -/
def commitsWrong : ChangeSpec := { name := "commits", fn := fun _ => fun
  | [d] => { results := [.lit (.bool false)], args := [d] }
  | _ => none }
def CommitsWrongFalsely : Prop := commitsRow.holds Tryz.pinned (OpenSpec.ofChange commitsWrong)

/-- 'preceptlaw.Matching': WHATEVER THE INPUT: true; the input reads as it did. -/
def matchingSpec : ChangeSpec := { name := "matching", fn := fun _ => fun
  | [d] => { results := [.lit (.bool true)], args := [d] }
  | _ => none }
def matchingRow : OpenClaim := { program := "ythlhbjnkohinmaagreat", sum := "4dfde7f932871b44b6cb6c7fc29acc75f6e1cdc511462f6abb8075d06c73f940", func := "precept/preceptlaw.Matching", spec := "matching", recurses := true, apart := false }
def MatchingSaid : Prop := matchingRow.holds Tryz.pinned (OpenSpec.ofChange matchingSpec)

/-- ITS FALSE NEIGHBOUR: 'it returns false'. Refute it at one input. -/
def matchingWrong : ChangeSpec := { name := "matching", fn := fun _ => fun
  | [d] => { results := [.lit (.bool false)], args := [d] }
  | _ => none }
def MatchingWrongFalsely : Prop := matchingRow.holds Tryz.pinned (OpenSpec.ofChange matchingWrong)

/-- 'preceptlaw.Runs': WHATEVER THE INPUT: true; the input reads as it did. -/
def runsSpec : ChangeSpec := { name := "runs", fn := fun _ => fun
  | [d] => { results := [.lit (.bool true)], args := [d] }
  | _ => none }
def runsRow : OpenClaim := { program := "ythlhbjnkohinmaagreat", sum := "4dfde7f932871b44b6cb6c7fc29acc75f6e1cdc511462f6abb8075d06c73f940", func := "precept/preceptlaw.Runs", spec := "runs", recurses := true, apart := false }
def RunsSaid : Prop := runsRow.holds Tryz.pinned (OpenSpec.ofChange runsSpec)

/-- ITS FALSE NEIGHBOUR: 'it returns false'. Refute it at one input. -/
def runsWrong : ChangeSpec := { name := "runs", fn := fun _ => fun
  | [d] => { results := [.lit (.bool false)], args := [d] }
  | _ => none }
def RunsWrongFalsely : Prop := runsRow.holds Tryz.pinned (OpenSpec.ofChange runsWrong)

/-- 'preceptlaw.Sweeps': WHATEVER THE INPUT: true; the input reads as it did. -/
def sweepsSpec : ChangeSpec := { name := "sweeps", fn := fun _ => fun
  | [d] => { results := [.lit (.bool true)], args := [d] }
  | _ => none }
def sweepsRow : OpenClaim := { program := "ythlhbjnkohinmaagreat", sum := "4dfde7f932871b44b6cb6c7fc29acc75f6e1cdc511462f6abb8075d06c73f940", func := "precept/preceptlaw.Sweeps", spec := "sweeps", recurses := true, apart := false }
def SweepsSaid : Prop := sweepsRow.holds Tryz.pinned (OpenSpec.ofChange sweepsSpec)

/-- ITS FALSE NEIGHBOUR: 'it returns false'. Refute it at one input. -/
def sweepsWrong : ChangeSpec := { name := "sweeps", fn := fun _ => fun
  | [d] => { results := [.lit (.bool false)], args := [d] }
  | _ => none }
def SweepsWrongFalsely : Prop := sweepsRow.holds Tryz.pinned (OpenSpec.ofChange sweepsWrong)

/- THE SECOND FORM. 'bulk': how many values and letters a reading holds, each counted each time it is reached (what is shared counts as often as it is met; a slice's spare places count too). A statement '..UptoSaid' is the law's where the arguments, and the package variables that the reading takes, are together of bulk at most 1048576: NARROWER than '..Said'. Prove '..Said' where nothing that the law and all that it calls make is longer than what came in: it says more and counts as full. Else prove '..UptoSaid'. A law counts once. -/
mutual
def uptoBulk {H : Type} : DataW H → Nat
  | .lit (.string bytes) => bytes.length + 1
  | .lit _ => 1
  | .nil => 1
  | .ptr d => uptoBulk d + 1
  | .slice elems spare => uptoBulkAll elems + uptoBulkAll spare + 1
  | .agg parts => uptoBulkAll parts + 1
  | .iface _ d => uptoBulk d + 1
  | .map entries => uptoBulkEntries entries + 1
  | .held _ => 1
def uptoBulkAll {H : Type} : List (DataW H) → Nat
  | [] => 0
  | d :: r => uptoBulk d + uptoBulkAll r
def uptoBulkEntries {H : Type} : List (Lit × DataW H) → Nat
  | [] => 0
  | x :: r => uptoBulkEntry x + uptoBulkEntries r
def uptoBulkEntry {H : Type} : Lit × DataW H → Nat
  | (.string bytes, d) => bytes.length + uptoBulk d + 1
  | (_, d) => uptoBulk d + 1
 end
def uptoSmall : (H : Type) → List (DataW H) → Bool := fun _ ds => decide (uptoBulkAll ds ≤ 1048576)
def OpenSpec.upto (s : _root_.Go.ChangeSpec) : _root_.Go.OpenSpec := { _root_.Go.OpenSpec.ofChange s with cond := some uptoSmall }

/-- 'preceptlaw.News', WHERE WHAT IT READS IS OF BULK AT MOST 1048576: true; the input reads as it did. -/
def newsUptoRow : OpenClaim := { program := "ythlhbjnkohinmaagreat", sum := "4dfde7f932871b44b6cb6c7fc29acc75f6e1cdc511462f6abb8075d06c73f940", func := "precept/preceptlaw.News", spec := "news", recurses := true, apart := false, narrowed := true }
def NewsUptoSaid : Prop := newsUptoRow.holds Tryz.pinned (OpenSpec.upto newsSpec)

/-- 'preceptlaw.Sessions', WHERE WHAT IT READS IS OF BULK AT MOST 1048576: true; the input reads as it did. -/
def sessionsUptoRow : OpenClaim := { program := "ythlhbjnkohinmaagreat", sum := "4dfde7f932871b44b6cb6c7fc29acc75f6e1cdc511462f6abb8075d06c73f940", func := "precept/preceptlaw.Sessions", spec := "sessions", recurses := true, apart := false, narrowed := true }
def SessionsUptoSaid : Prop := sessionsUptoRow.holds Tryz.pinned (OpenSpec.upto sessionsSpec)

/-- 'preceptlaw.Commits', WHERE WHAT IT READS IS OF BULK AT MOST 1048576: true; the input reads as it did. -/
def commitsUptoRow : OpenClaim := { program := "ythlhbjnkohinmaagreat", sum := "4dfde7f932871b44b6cb6c7fc29acc75f6e1cdc511462f6abb8075d06c73f940", func := "precept/preceptlaw.Commits", spec := "commits", recurses := true, apart := false, narrowed := true }
def CommitsUptoSaid : Prop := commitsUptoRow.holds Tryz.pinned (OpenSpec.upto commitsSpec)

/-- 'preceptlaw.Matching', WHERE WHAT IT READS IS OF BULK AT MOST 1048576: true; the input reads as it did. -/
def matchingUptoRow : OpenClaim := { program := "ythlhbjnkohinmaagreat", sum := "4dfde7f932871b44b6cb6c7fc29acc75f6e1cdc511462f6abb8075d06c73f940", func := "precept/preceptlaw.Matching", spec := "matching", recurses := true, apart := false, narrowed := true }
def MatchingUptoSaid : Prop := matchingUptoRow.holds Tryz.pinned (OpenSpec.upto matchingSpec)

/-- 'preceptlaw.Runs', WHERE WHAT IT READS IS OF BULK AT MOST 1048576: true; the input reads as it did. -/
def runsUptoRow : OpenClaim := { program := "ythlhbjnkohinmaagreat", sum := "4dfde7f932871b44b6cb6c7fc29acc75f6e1cdc511462f6abb8075d06c73f940", func := "precept/preceptlaw.Runs", spec := "runs", recurses := true, apart := false, narrowed := true }
def RunsUptoSaid : Prop := runsUptoRow.holds Tryz.pinned (OpenSpec.upto runsSpec)

/-- 'preceptlaw.Sweeps', WHERE WHAT IT READS IS OF BULK AT MOST 1048576: true; the input reads as it did. -/
def sweepsUptoRow : OpenClaim := { program := "ythlhbjnkohinmaagreat", sum := "4dfde7f932871b44b6cb6c7fc29acc75f6e1cdc511462f6abb8075d06c73f940", func := "precept/preceptlaw.Sweeps", spec := "sweeps", recurses := true, apart := false, narrowed := true }
def SweepsUptoSaid : Prop := sweepsUptoRow.holds Tryz.pinned (OpenSpec.upto sweepsSpec)

end Rows
end Go.Proofs.YthlhbjnkohinmaaGreat
