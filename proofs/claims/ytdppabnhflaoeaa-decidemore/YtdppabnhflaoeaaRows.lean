/-
  No cell of these rows narrows 'for every input' (looked for: loops, veiled, ifaces, maps, wideKeys, modest, calm, conditions, laid).
  DERIVED. THE GIVEN ROWS OF THIS SEAT. 5 by the template 'for every input the law returns true; each argument reads behind the call as it read before'; 0 by the template 'total and deterministic' (their statements: YtdppabnhflaoeaaTotals.lean).
  GIVEN WITH THE SEED: the statements are not yours to turn. If you find one false, say at which input.
  Laid BY PROGRAM, IN A SANDBOX (cutbox-rows.mjs): the forced cells as the released guide's own fill.sh prints them over the translation cae59a4496f9f46a… (all of the seat's roots in one cut). By AI agents, Wed Nov 11 2026. No macro, syntax, notation, axiom, sorry.
-/
import Derived.Test.YtdppabnhflaoeaaChecked
import GoSem.Claim
import GoSem.ClaimJoined
import GoSem.ClaimMapViews
import Derived.JoinedTies
import Derived.KernelRfl
namespace Go.Proofs.Ytdppabnhflaoeaa
/- THE CELL 'sum', in the pinned program and in every row, IS THE sha256 OF THE DUMP (.gsa) THAT YtdppabnhflaoeaaProg.lean LOADS. Nothing in Lean hashes anything: it is a label: what it is worth is what the hold of that sum in a sandbox is worth. -/
noncomputable def Try.pinned : Pinned := { name := "ytdppabnhflaoeaa", sum := "cae59a4496f9f46a8cde4543007208690fbe5ed7c4a4374224f2fedf0f455617", checked := Try.checked }
namespace Rows
def none {H : Type} : Left H := { results := [], args := [] }

/-- 'murmurlaw11.DecideSteps': WHATEVER THE INPUT: true; the input reads as it did. -/
def decideStepsSpec : ChangeSpec := { name := "decideSteps", fn := fun _ => fun
  | [d1, d2, d3] => { results := [.lit (.bool true)], args := [d1, d2, d3] }
  | _ => none }
def decideStepsRow : OpenClaim := { program := "ytdppabnhflaoeaa", sum := "cae59a4496f9f46a8cde4543007208690fbe5ed7c4a4374224f2fedf0f455617", func := "murmur/murmurlaw11.DecideSteps", spec := "decideSteps", unfollowed := true, recurses := true, apart := false }
def DecideStepsSaid : Prop := decideStepsRow.holds Try.pinned (OpenSpec.ofChange decideStepsSpec)

/-- ITS FALSE NEIGHBOUR: 'it returns false'. Refute it at one input. -/
def decideStepsWrong : ChangeSpec := { name := "decideSteps", fn := fun _ => fun
  | [d1, d2, d3] => { results := [.lit (.bool false)], args := [d1, d2, d3] }
  | _ => none }
def DecideStepsWrongFalsely : Prop := decideStepsRow.holds Try.pinned (OpenSpec.ofChange decideStepsWrong)

/-- 'murmurlaw11.DecideStable': WHATEVER THE INPUT: true; the input reads as it did. -/
def decideStableSpec : ChangeSpec := { name := "decideStable", fn := fun _ => fun
  | [d1, d2, d3] => { results := [.lit (.bool true)], args := [d1, d2, d3] }
  | _ => none }
def decideStableRow : OpenClaim := { program := "ytdppabnhflaoeaa", sum := "cae59a4496f9f46a8cde4543007208690fbe5ed7c4a4374224f2fedf0f455617", func := "murmur/murmurlaw11.DecideStable", spec := "decideStable", unfollowed := true, recurses := true, apart := false }
def DecideStableSaid : Prop := decideStableRow.holds Try.pinned (OpenSpec.ofChange decideStableSpec)

/-- ITS FALSE NEIGHBOUR: 'it returns false'. Refute it at one input. -/
def decideStableWrong : ChangeSpec := { name := "decideStable", fn := fun _ => fun
  | [d1, d2, d3] => { results := [.lit (.bool false)], args := [d1, d2, d3] }
  | _ => none }
def DecideStableWrongFalsely : Prop := decideStableRow.holds Try.pinned (OpenSpec.ofChange decideStableWrong)

/-- 'murmurlaw11.DecideBounds': WHATEVER THE INPUT: true; the input reads as it did. -/
def decideBoundsSpec : ChangeSpec := { name := "decideBounds", fn := fun _ => fun
  | [d1, d2, d3] => { results := [.lit (.bool true)], args := [d1, d2, d3] }
  | _ => none }
def decideBoundsRow : OpenClaim := { program := "ytdppabnhflaoeaa", sum := "cae59a4496f9f46a8cde4543007208690fbe5ed7c4a4374224f2fedf0f455617", func := "murmur/murmurlaw11.DecideBounds", spec := "decideBounds", unfollowed := true, recurses := true, apart := false }
def DecideBoundsSaid : Prop := decideBoundsRow.holds Try.pinned (OpenSpec.ofChange decideBoundsSpec)

/-- ITS FALSE NEIGHBOUR: 'it returns false'. Refute it at one input. -/
def decideBoundsWrong : ChangeSpec := { name := "decideBounds", fn := fun _ => fun
  | [d1, d2, d3] => { results := [.lit (.bool false)], args := [d1, d2, d3] }
  | _ => none }
def DecideBoundsWrongFalsely : Prop := decideBoundsRow.holds Try.pinned (OpenSpec.ofChange decideBoundsWrong)

/-- 'murmurlaw11.DecideMore': WHATEVER THE INPUT: true; the input reads as it did. -/
def decideMoreSpec : ChangeSpec := { name := "decideMore", fn := fun _ => fun
  | [d] => { results := [.lit (.bool true)], args := [d] }
  | _ => none }
def decideMoreRow : OpenClaim := { program := "ytdppabnhflaoeaa", sum := "cae59a4496f9f46a8cde4543007208690fbe5ed7c4a4374224f2fedf0f455617", func := "murmur/murmurlaw11.DecideMore", spec := "decideMore", unfollowed := true, recurses := true, apart := false }
def DecideMoreSaid : Prop := decideMoreRow.holds Try.pinned (OpenSpec.ofChange decideMoreSpec)

/-- ITS FALSE NEIGHBOUR: 'it returns false'. Refute it at one input. -/
def decideMoreWrong : ChangeSpec := { name := "decideMore", fn := fun _ => fun
  | [d] => { results := [.lit (.bool false)], args := [d] }
  | _ => none }
def DecideMoreWrongFalsely : Prop := decideMoreRow.holds Try.pinned (OpenSpec.ofChange decideMoreWrong)

/-- 'murmurlaw11.DecideRests': WHATEVER THE INPUT: true; the input reads as it did. -/
def decideRestsSpec : ChangeSpec := { name := "decideRests", fn := fun _ => fun
  | [d1, d2, d3] => { results := [.lit (.bool true)], args := [d1, d2, d3] }
  | _ => none }
def decideRestsRow : OpenClaim := { program := "ytdppabnhflaoeaa", sum := "cae59a4496f9f46a8cde4543007208690fbe5ed7c4a4374224f2fedf0f455617", func := "murmur/murmurlaw11.DecideRests", spec := "decideRests", unfollowed := true, recurses := true, apart := false }
def DecideRestsSaid : Prop := decideRestsRow.holds Try.pinned (OpenSpec.ofChange decideRestsSpec)

/-- ITS FALSE NEIGHBOUR: 'it returns false'. Refute it at one input. -/
def decideRestsWrong : ChangeSpec := { name := "decideRests", fn := fun _ => fun
  | [d1, d2, d3] => { results := [.lit (.bool false)], args := [d1, d2, d3] }
  | _ => none }
def DecideRestsWrongFalsely : Prop := decideRestsRow.holds Try.pinned (OpenSpec.ofChange decideRestsWrong)

/- THE SECOND FORM. 'bulk': how many values and letters a reading holds, each counted each time it is reached (what is shared counts as often as it is met; a slice's spare places count too). A statement '..UptoSaid' is the law's where the arguments, and the package variables that the reading takes, are together of bulk at most 1048576: NARROWER than '..Said'. Prove '..Said' where nothing that the law and all that it calls make is longer than what came in: it says more and counts as full. Else prove '..UptoSaid'. A law counts once. -/
mutual
def uptoBulk {H : Type} : DataW H → Nat
  | .lit (.string bytes) => bytes.length + 1
  | .lit _ => 1
  | .nil => 1
  | .ptr d => uptoBulk d + 1
  | .slice elems spare => uptoBulkAll elems + uptoBulkAll spare + 1
  | .agg parts => uptoBulkAll parts + 1
  | .iface _ d => uptoBulk d + 1
  | .map entries => uptoBulkEntries entries + 1
  | .held _ => 1
def uptoBulkAll {H : Type} : List (DataW H) → Nat
  | [] => 0
  | d :: r => uptoBulk d + uptoBulkAll r
def uptoBulkEntries {H : Type} : List (Lit × DataW H) → Nat
  | [] => 0
  | x :: r => uptoBulkEntry x + uptoBulkEntries r
def uptoBulkEntry {H : Type} : Lit × DataW H → Nat
  | (.string bytes, d) => bytes.length + uptoBulk d + 1
  | (_, d) => uptoBulk d + 1
 end
def uptoSmall : (H : Type) → List (DataW H) → Bool := fun _ ds => decide (uptoBulkAll ds ≤ 1048576)
def OpenSpec.upto (s : _root_.Go.ChangeSpec) : _root_.Go.OpenSpec := { _root_.Go.OpenSpec.ofChange s with cond := some uptoSmall }

/-- 'murmurlaw11.DecideSteps', WHERE WHAT IT READS IS OF BULK AT MOST 1048576: true; the input reads as it did. -/
def decideStepsUptoRow : OpenClaim := { program := "ytdppabnhflaoeaa", sum := "cae59a4496f9f46a8cde4543007208690fbe5ed7c4a4374224f2fedf0f455617", func := "murmur/murmurlaw11.DecideSteps", spec := "decideSteps", unfollowed := true, recurses := true, apart := false, narrowed := true }
def DecideStepsUptoSaid : Prop := decideStepsUptoRow.holds Try.pinned (OpenSpec.upto decideStepsSpec)

/-- 'murmurlaw11.DecideStable', WHERE WHAT IT READS IS OF BULK AT MOST 1048576: true; the input reads as it did. -/
def decideStableUptoRow : OpenClaim := { program := "ytdppabnhflaoeaa", sum := "cae59a4496f9f46a8cde4543007208690fbe5ed7c4a4374224f2fedf0f455617", func := "murmur/murmurlaw11.DecideStable", spec := "decideStable", unfollowed := true, recurses := true, apart := false, narrowed := true }
def DecideStableUptoSaid : Prop := decideStableUptoRow.holds Try.pinned (OpenSpec.upto decideStableSpec)

/-- 'murmurlaw11.DecideBounds', WHERE WHAT IT READS IS OF BULK AT MOST 1048576: true; the input reads as it did. -/
def decideBoundsUptoRow : OpenClaim := { program := "ytdppabnhflaoeaa", sum := "cae59a4496f9f46a8cde4543007208690fbe5ed7c4a4374224f2fedf0f455617", func := "murmur/murmurlaw11.DecideBounds", spec := "decideBounds", unfollowed := true, recurses := true, apart := false, narrowed := true }
def DecideBoundsUptoSaid : Prop := decideBoundsUptoRow.holds Try.pinned (OpenSpec.upto decideBoundsSpec)

/-- 'murmurlaw11.DecideMore', WHERE WHAT IT READS IS OF BULK AT MOST 1048576: true; the input reads as it did. -/
def decideMoreUptoRow : OpenClaim := { program := "ytdppabnhflaoeaa", sum := "cae59a4496f9f46a8cde4543007208690fbe5ed7c4a4374224f2fedf0f455617", func := "murmur/murmurlaw11.DecideMore", spec := "decideMore", unfollowed := true, recurses := true, apart := false, narrowed := true }
def DecideMoreUptoSaid : Prop := decideMoreUptoRow.holds Try.pinned (OpenSpec.upto decideMoreSpec)

/-- 'murmurlaw11.DecideRests', WHERE WHAT IT READS IS OF BULK AT MOST 1048576: true; the input reads as it did. -/
def decideRestsUptoRow : OpenClaim := { program := "ytdppabnhflaoeaa", sum := "cae59a4496f9f46a8cde4543007208690fbe5ed7c4a4374224f2fedf0f455617", func := "murmur/murmurlaw11.DecideRests", spec := "decideRests", unfollowed := true, recurses := true, apart := false, narrowed := true }
def DecideRestsUptoSaid : Prop := decideRestsUptoRow.holds Try.pinned (OpenSpec.upto decideRestsSpec)

end Rows
end Go.Proofs.Ytdppabnhflaoeaa
