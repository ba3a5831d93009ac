/-
  No cell of these rows narrows 'for every input' (looked for: loops, veiled, ifaces, maps, wideKeys, modest, calm, conditions, laid).
  DERIVED. THE GIVEN ROWS OF THIS SEAT. 5 by the template 'for every input the law returns true; each argument reads behind the call as it read before'; 0 by the template 'total and deterministic' (their statements: YtgjepgnbkfbodaaTotals.lean).
  GIVEN WITH THE SEED: the statements are not yours to turn. If you find one false, say at which input.
  Laid BY PROGRAM, IN A SANDBOX (cutbox-rows.mjs): the forced cells as the released guide's own fill.sh prints them over the translation fc3ac7ffcec70059… (all of the seat's roots in one cut). By AI agents, Wed Nov 11 2026. No macro, syntax, notation, axiom, sorry.
-/
import Derived.Test.YtgjepgnbkfbodaaChecked
import GoSem.Claim
import GoSem.ClaimJoined
import GoSem.ClaimMapViews
import Derived.JoinedTies
import Derived.KernelRfl
namespace Go.Proofs.Ytgjepgnbkfbodaa
/- THE CELL 'sum', in the pinned program and in every row, IS THE sha256 OF THE DUMP (.gsa) THAT YtgjepgnbkfbodaaProg.lean LOADS. Nothing in Lean hashes anything: it is a label: what it is worth is what the hold of that sum in a sandbox is worth. -/
noncomputable def Try.pinned : Pinned := { name := "ytgjepgnbkfbodaa", sum := "fc3ac7ffcec70059bfc01e5b57fc33a0b08d0c688d0cdfb1cb7e90034e95b663", checked := Try.checked }
namespace Rows
def none {H : Type} : Left H := { results := [], args := [] }

/-- 'murmurlaw09.PolicySets': WHATEVER THE INPUT: true; the input reads as it did. -/
def policySetsSpec : ChangeSpec := { name := "policySets", fn := fun _ => fun
  | [d1, d2] => { results := [.lit (.bool true)], args := [d1, d2] }
  | _ => none }
def policySetsRow : OpenClaim := { program := "ytgjepgnbkfbodaa", sum := "fc3ac7ffcec70059bfc01e5b57fc33a0b08d0c688d0cdfb1cb7e90034e95b663", func := "murmur/murmurlaw09.PolicySets", spec := "policySets", unfollowed := true, recurses := true, apart := false }
def PolicySetsSaid : Prop := policySetsRow.holds Try.pinned (OpenSpec.ofChange policySetsSpec)

/-- ITS FALSE NEIGHBOUR: 'it returns false'. Refute it at one input. -/
def policySetsWrong : ChangeSpec := { name := "policySets", fn := fun _ => fun
  | [d1, d2] => { results := [.lit (.bool false)], args := [d1, d2] }
  | _ => none }
def PolicySetsWrongFalsely : Prop := policySetsRow.holds Try.pinned (OpenSpec.ofChange policySetsWrong)

/-- 'murmurlaw09.PolicyAsked': WHATEVER THE INPUT: true; the input reads as it did. -/
def policyAskedSpec : ChangeSpec := { name := "policyAsked", fn := fun _ => fun
  | [d1, d2] => { results := [.lit (.bool true)], args := [d1, d2] }
  | _ => none }
def policyAskedRow : OpenClaim := { program := "ytgjepgnbkfbodaa", sum := "fc3ac7ffcec70059bfc01e5b57fc33a0b08d0c688d0cdfb1cb7e90034e95b663", func := "murmur/murmurlaw09.PolicyAsked", spec := "policyAsked", unfollowed := true, recurses := true, apart := false }
def PolicyAskedSaid : Prop := policyAskedRow.holds Try.pinned (OpenSpec.ofChange policyAskedSpec)

/-- ITS FALSE NEIGHBOUR: 'it returns false'. Refute it at one input. -/
def policyAskedWrong : ChangeSpec := { name := "policyAsked", fn := fun _ => fun
  | [d1, d2] => { results := [.lit (.bool false)], args := [d1, d2] }
  | _ => none }
def PolicyAskedWrongFalsely : Prop := policyAskedRow.holds Try.pinned (OpenSpec.ofChange policyAskedWrong)

/-- 'murmurlaw09.PolicyWins': WHATEVER THE INPUT: true; the input reads as it did. -/
def policyWinsSpec : ChangeSpec := { name := "policyWins", fn := fun _ => fun
  | [d1, d2, d3] => { results := [.lit (.bool true)], args := [d1, d2, d3] }
  | _ => none }
def policyWinsRow : OpenClaim := { program := "ytgjepgnbkfbodaa", sum := "fc3ac7ffcec70059bfc01e5b57fc33a0b08d0c688d0cdfb1cb7e90034e95b663", func := "murmur/murmurlaw09.PolicyWins", spec := "policyWins", unfollowed := true, recurses := true, apart := false }
def PolicyWinsSaid : Prop := policyWinsRow.holds Try.pinned (OpenSpec.ofChange policyWinsSpec)

/-- ITS FALSE NEIGHBOUR: 'it returns false'. Refute it at one input. -/
def policyWinsWrong : ChangeSpec := { name := "policyWins", fn := fun _ => fun
  | [d1, d2, d3] => { results := [.lit (.bool false)], args := [d1, d2, d3] }
  | _ => none }
def PolicyWinsWrongFalsely : Prop := policyWinsRow.holds Try.pinned (OpenSpec.ofChange policyWinsWrong)

/-- 'murmurlaw09.PolicyMore': WHATEVER THE INPUT: true; the input reads as it did. -/
def policyMoreSpec : ChangeSpec := { name := "policyMore", fn := fun _ => fun
  | [d1, d2, d3] => { results := [.lit (.bool true)], args := [d1, d2, d3] }
  | _ => none }
def policyMoreRow : OpenClaim := { program := "ytgjepgnbkfbodaa", sum := "fc3ac7ffcec70059bfc01e5b57fc33a0b08d0c688d0cdfb1cb7e90034e95b663", func := "murmur/murmurlaw09.PolicyMore", spec := "policyMore", unfollowed := true, recurses := true, apart := false }
def PolicyMoreSaid : Prop := policyMoreRow.holds Try.pinned (OpenSpec.ofChange policyMoreSpec)

/-- ITS FALSE NEIGHBOUR: 'it returns false'. Refute it at one input. -/
def policyMoreWrong : ChangeSpec := { name := "policyMore", fn := fun _ => fun
  | [d1, d2, d3] => { results := [.lit (.bool false)], args := [d1, d2, d3] }
  | _ => none }
def PolicyMoreWrongFalsely : Prop := policyMoreRow.holds Try.pinned (OpenSpec.ofChange policyMoreWrong)

/-- 'murmurlaw09.PolicyWorks': WHATEVER THE INPUT: true; the input reads as it did. -/
def policyWorksSpec : ChangeSpec := { name := "policyWorks", fn := fun _ => fun
  | [d] => { results := [.lit (.bool true)], args := [d] }
  | _ => none }
def policyWorksRow : OpenClaim := { program := "ytgjepgnbkfbodaa", sum := "fc3ac7ffcec70059bfc01e5b57fc33a0b08d0c688d0cdfb1cb7e90034e95b663", func := "murmur/murmurlaw09.PolicyWorks", spec := "policyWorks", unfollowed := true, recurses := true, apart := false }
def PolicyWorksSaid : Prop := policyWorksRow.holds Try.pinned (OpenSpec.ofChange policyWorksSpec)

/-- ITS FALSE NEIGHBOUR: 'it returns false'. Refute it at one input. -/
def policyWorksWrong : ChangeSpec := { name := "policyWorks", fn := fun _ => fun
  | [d] => { results := [.lit (.bool false)], args := [d] }
  | _ => none }
def PolicyWorksWrongFalsely : Prop := policyWorksRow.holds Try.pinned (OpenSpec.ofChange policyWorksWrong)

/- THE SECOND FORM. 'bulk': how many values and letters a reading holds, each counted each time it is reached (what is shared counts as often as it is met; a slice's spare places count too). A statement '..UptoSaid' is the law's where the arguments, and the package variables that the reading takes, are together of bulk at most 1048576: NARROWER than '..Said'. Prove '..Said' where nothing that the law and all that it calls make is longer than what came in: it says more and counts as full. Else prove '..UptoSaid'. A law counts once. -/
mutual
def uptoBulk {H : Type} : DataW H → Nat
  | .lit (.string bytes) => bytes.length + 1
  | .lit _ => 1
  | .nil => 1
  | .ptr d => uptoBulk d + 1
  | .slice elems spare => uptoBulkAll elems + uptoBulkAll spare + 1
  | .agg parts => uptoBulkAll parts + 1
  | .iface _ d => uptoBulk d + 1
  | .map entries => uptoBulkEntries entries + 1
  | .held _ => 1
def uptoBulkAll {H : Type} : List (DataW H) → Nat
  | [] => 0
  | d :: r => uptoBulk d + uptoBulkAll r
def uptoBulkEntries {H : Type} : List (Lit × DataW H) → Nat
  | [] => 0
  | x :: r => uptoBulkEntry x + uptoBulkEntries r
def uptoBulkEntry {H : Type} : Lit × DataW H → Nat
  | (.string bytes, d) => bytes.length + uptoBulk d + 1
  | (_, d) => uptoBulk d + 1
 end
def uptoSmall : (H : Type) → List (DataW H) → Bool := fun _ ds => decide (uptoBulkAll ds ≤ 1048576)
def OpenSpec.upto (s : _root_.Go.ChangeSpec) : _root_.Go.OpenSpec := { _root_.Go.OpenSpec.ofChange s with cond := some uptoSmall }

/-- 'murmurlaw09.PolicySets', WHERE WHAT IT READS IS OF BULK AT MOST 1048576: true; the input reads as it did. -/
def policySetsUptoRow : OpenClaim := { program := "ytgjepgnbkfbodaa", sum := "fc3ac7ffcec70059bfc01e5b57fc33a0b08d0c688d0cdfb1cb7e90034e95b663", func := "murmur/murmurlaw09.PolicySets", spec := "policySets", unfollowed := true, recurses := true, apart := false, narrowed := true }
def PolicySetsUptoSaid : Prop := policySetsUptoRow.holds Try.pinned (OpenSpec.upto policySetsSpec)

/-- 'murmurlaw09.PolicyAsked', WHERE WHAT IT READS IS OF BULK AT MOST 1048576: true; the input reads as it did. -/
def policyAskedUptoRow : OpenClaim := { program := "ytgjepgnbkfbodaa", sum := "fc3ac7ffcec70059bfc01e5b57fc33a0b08d0c688d0cdfb1cb7e90034e95b663", func := "murmur/murmurlaw09.PolicyAsked", spec := "policyAsked", unfollowed := true, recurses := true, apart := false, narrowed := true }
def PolicyAskedUptoSaid : Prop := policyAskedUptoRow.holds Try.pinned (OpenSpec.upto policyAskedSpec)

/-- 'murmurlaw09.PolicyWins', WHERE WHAT IT READS IS OF BULK AT MOST 1048576: true; the input reads as it did. -/
def policyWinsUptoRow : OpenClaim := { program := "ytgjepgnbkfbodaa", sum := "fc3ac7ffcec70059bfc01e5b57fc33a0b08d0c688d0cdfb1cb7e90034e95b663", func := "murmur/murmurlaw09.PolicyWins", spec := "policyWins", unfollowed := true, recurses := true, apart := false, narrowed := true }
def PolicyWinsUptoSaid : Prop := policyWinsUptoRow.holds Try.pinned (OpenSpec.upto policyWinsSpec)

/-- 'murmurlaw09.PolicyMore', WHERE WHAT IT READS IS OF BULK AT MOST 1048576: true; the input reads as it did. -/
def policyMoreUptoRow : OpenClaim := { program := "ytgjepgnbkfbodaa", sum := "fc3ac7ffcec70059bfc01e5b57fc33a0b08d0c688d0cdfb1cb7e90034e95b663", func := "murmur/murmurlaw09.PolicyMore", spec := "policyMore", unfollowed := true, recurses := true, apart := false, narrowed := true }
def PolicyMoreUptoSaid : Prop := policyMoreUptoRow.holds Try.pinned (OpenSpec.upto policyMoreSpec)

/-- 'murmurlaw09.PolicyWorks', WHERE WHAT IT READS IS OF BULK AT MOST 1048576: true; the input reads as it did. -/
def policyWorksUptoRow : OpenClaim := { program := "ytgjepgnbkfbodaa", sum := "fc3ac7ffcec70059bfc01e5b57fc33a0b08d0c688d0cdfb1cb7e90034e95b663", func := "murmur/murmurlaw09.PolicyWorks", spec := "policyWorks", unfollowed := true, recurses := true, apart := false, narrowed := true }
def PolicyWorksUptoSaid : Prop := policyWorksUptoRow.holds Try.pinned (OpenSpec.upto policyWorksSpec)

end Rows
end Go.Proofs.Ytgjepgnbkfbodaa
