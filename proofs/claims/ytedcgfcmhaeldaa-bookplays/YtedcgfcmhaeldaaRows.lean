/-
  No cell of these rows narrows 'for every input' (looked for: loops, veiled, ifaces, maps, wideKeys, modest, calm, conditions, laid).
  DERIVED. THE GIVEN ROWS OF THIS SEAT. 6 by the template 'for every input the law returns true; each argument reads behind the call as it read before'; 0 by the template 'total and deterministic' (their statements: YtedcgfcmhaeldaaTotals.lean).
  GIVEN WITH THE SEED: the statements are not yours to turn. If you find one false, say at which input.
  Laid BY PROGRAM, IN A SANDBOX (cutbox-rows.mjs): the forced cells as the released guide's own fill.sh prints them over the translation 6ee218e6610b4064… (all of the seat's roots in one cut). By AI agents, Wed Nov 11 2026. No macro, syntax, notation, axiom, sorry.
-/
import Derived.Test.YtedcgfcmhaeldaaChecked
import GoSem.Claim
import GoSem.ClaimJoined
import GoSem.ClaimMapViews
import Derived.JoinedTies
import Derived.KernelRfl
namespace Go.Proofs.Ytedcgfcmhaeldaa
/- THE CELL 'sum', in the pinned program and in every row, IS THE sha256 OF THE DUMP (.gsa) THAT YtedcgfcmhaeldaaProg.lean LOADS. Nothing in Lean hashes anything: it is a label: what it is worth is what the hold of that sum in a sandbox is worth. -/
noncomputable def Try.pinned : Pinned := { name := "ytedcgfcmhaeldaa", sum := "6ee218e6610b40645f2118dfed6ed6c65ee8c211ebdb27340b531b64efed80a8", checked := Try.checked }
namespace Rows
def none {H : Type} : Left H := { results := [], args := [] }

/-- 'murmurlaw08.BookPlays': WHATEVER THE INPUT: true; the input reads as it did. -/
def bookPlaysSpec : ChangeSpec := { name := "bookPlays", fn := fun _ => fun
  | [d] => { results := [.lit (.bool true)], args := [d] }
  | _ => none }
def bookPlaysRow : OpenClaim := { program := "ytedcgfcmhaeldaa", sum := "6ee218e6610b40645f2118dfed6ed6c65ee8c211ebdb27340b531b64efed80a8", func := "murmur/murmurlaw08.BookPlays", spec := "bookPlays", unfollowed := true, recurses := true, plainKeys := false, apart := false }
def BookPlaysSaid : Prop := bookPlaysRow.holds Try.pinned (OpenSpec.ofChange bookPlaysSpec)

/-- ITS FALSE NEIGHBOUR: 'it returns false'. Refute it at one input. -/
def bookPlaysWrong : ChangeSpec := { name := "bookPlays", fn := fun _ => fun
  | [d] => { results := [.lit (.bool false)], args := [d] }
  | _ => none }
def BookPlaysWrongFalsely : Prop := bookPlaysRow.holds Try.pinned (OpenSpec.ofChange bookPlaysWrong)

/-- 'murmurlaw08.BookOrder': WHATEVER THE INPUT: true; the input reads as it did. -/
def bookOrderSpec : ChangeSpec := { name := "bookOrder", fn := fun _ => fun
  | [d1, d2] => { results := [.lit (.bool true)], args := [d1, d2] }
  | _ => none }
def bookOrderRow : OpenClaim := { program := "ytedcgfcmhaeldaa", sum := "6ee218e6610b40645f2118dfed6ed6c65ee8c211ebdb27340b531b64efed80a8", func := "murmur/murmurlaw08.BookOrder", spec := "bookOrder", unfollowed := true, recurses := true, plainKeys := false, apart := false }
def BookOrderSaid : Prop := bookOrderRow.holds Try.pinned (OpenSpec.ofChange bookOrderSpec)

/-- ITS FALSE NEIGHBOUR: 'it returns false'. Refute it at one input. -/
def bookOrderWrong : ChangeSpec := { name := "bookOrder", fn := fun _ => fun
  | [d1, d2] => { results := [.lit (.bool false)], args := [d1, d2] }
  | _ => none }
def BookOrderWrongFalsely : Prop := bookOrderRow.holds Try.pinned (OpenSpec.ofChange bookOrderWrong)

/-- 'murmurlaw08.BookMeets': WHATEVER THE INPUT: true; the input reads as it did. -/
def bookMeetsSpec : ChangeSpec := { name := "bookMeets", fn := fun _ => fun
  | [d1, d2] => { results := [.lit (.bool true)], args := [d1, d2] }
  | _ => none }
def bookMeetsRow : OpenClaim := { program := "ytedcgfcmhaeldaa", sum := "6ee218e6610b40645f2118dfed6ed6c65ee8c211ebdb27340b531b64efed80a8", func := "murmur/murmurlaw08.BookMeets", spec := "bookMeets", unfollowed := true, recurses := true, plainKeys := false, apart := false }
def BookMeetsSaid : Prop := bookMeetsRow.holds Try.pinned (OpenSpec.ofChange bookMeetsSpec)

/-- ITS FALSE NEIGHBOUR: 'it returns false'. Refute it at one input. -/
def bookMeetsWrong : ChangeSpec := { name := "bookMeets", fn := fun _ => fun
  | [d1, d2] => { results := [.lit (.bool false)], args := [d1, d2] }
  | _ => none }
def BookMeetsWrongFalsely : Prop := bookMeetsRow.holds Try.pinned (OpenSpec.ofChange bookMeetsWrong)

/-- 'murmurlaw08.BookGrows': WHATEVER THE INPUT: true; the input reads as it did. -/
def bookGrowsSpec : ChangeSpec := { name := "bookGrows", fn := fun _ => fun
  | [d] => { results := [.lit (.bool true)], args := [d] }
  | _ => none }
def bookGrowsRow : OpenClaim := { program := "ytedcgfcmhaeldaa", sum := "6ee218e6610b40645f2118dfed6ed6c65ee8c211ebdb27340b531b64efed80a8", func := "murmur/murmurlaw08.BookGrows", spec := "bookGrows", unfollowed := true, recurses := true, plainKeys := false, apart := false }
def BookGrowsSaid : Prop := bookGrowsRow.holds Try.pinned (OpenSpec.ofChange bookGrowsSpec)

/-- ITS FALSE NEIGHBOUR: 'it returns false'. Refute it at one input. -/
def bookGrowsWrong : ChangeSpec := { name := "bookGrows", fn := fun _ => fun
  | [d] => { results := [.lit (.bool false)], args := [d] }
  | _ => none }
def BookGrowsWrongFalsely : Prop := bookGrowsRow.holds Try.pinned (OpenSpec.ofChange bookGrowsWrong)

/-- 'murmurlaw08.BookStands': WHATEVER THE INPUT: true; the input reads as it did. -/
def bookStandsSpec : ChangeSpec := { name := "bookStands", fn := fun _ => fun
  | [d1, d2] => { results := [.lit (.bool true)], args := [d1, d2] }
  | _ => none }
def bookStandsRow : OpenClaim := { program := "ytedcgfcmhaeldaa", sum := "6ee218e6610b40645f2118dfed6ed6c65ee8c211ebdb27340b531b64efed80a8", func := "murmur/murmurlaw08.BookStands", spec := "bookStands", unfollowed := true, recurses := true, plainKeys := false, apart := false }
def BookStandsSaid : Prop := bookStandsRow.holds Try.pinned (OpenSpec.ofChange bookStandsSpec)

/-- ITS FALSE NEIGHBOUR: 'it returns false'. Refute it at one input. -/
def bookStandsWrong : ChangeSpec := { name := "bookStands", fn := fun _ => fun
  | [d1, d2] => { results := [.lit (.bool false)], args := [d1, d2] }
  | _ => none }
def BookStandsWrongFalsely : Prop := bookStandsRow.holds Try.pinned (OpenSpec.ofChange bookStandsWrong)

/-- 'murmurlaw08.BookNewer': WHATEVER THE INPUT: true; the input reads as it did. -/
def bookNewerSpec : ChangeSpec := { name := "bookNewer", fn := fun _ => fun
  | [d1, d2, d3] => { results := [.lit (.bool true)], args := [d1, d2, d3] }
  | _ => none }
def bookNewerRow : OpenClaim := { program := "ytedcgfcmhaeldaa", sum := "6ee218e6610b40645f2118dfed6ed6c65ee8c211ebdb27340b531b64efed80a8", func := "murmur/murmurlaw08.BookNewer", spec := "bookNewer", unfollowed := true, recurses := true, plainKeys := false, apart := false }
def BookNewerSaid : Prop := bookNewerRow.holds Try.pinned (OpenSpec.ofChange bookNewerSpec)

/-- ITS FALSE NEIGHBOUR: 'it returns false'. Refute it at one input. -/
def bookNewerWrong : ChangeSpec := { name := "bookNewer", fn := fun _ => fun
  | [d1, d2, d3] => { results := [.lit (.bool false)], args := [d1, d2, d3] }
  | _ => none }
def BookNewerWrongFalsely : Prop := bookNewerRow.holds Try.pinned (OpenSpec.ofChange bookNewerWrong)

/- THE SECOND FORM. 'bulk': how many values and letters a reading holds, each counted each time it is reached (what is shared counts as often as it is met; a slice's spare places count too). A statement '..UptoSaid' is the law's where the arguments, and the package variables that the reading takes, are together of bulk at most 1048576: NARROWER than '..Said'. Prove '..Said' where nothing that the law and all that it calls make is longer than what came in: it says more and counts as full. Else prove '..UptoSaid'. A law counts once. -/
mutual
def uptoBulk {H : Type} : DataW H → Nat
  | .lit (.string bytes) => bytes.length + 1
  | .lit _ => 1
  | .nil => 1
  | .ptr d => uptoBulk d + 1
  | .slice elems spare => uptoBulkAll elems + uptoBulkAll spare + 1
  | .agg parts => uptoBulkAll parts + 1
  | .iface _ d => uptoBulk d + 1
  | .map entries => uptoBulkEntries entries + 1
  | .held _ => 1
def uptoBulkAll {H : Type} : List (DataW H) → Nat
  | [] => 0
  | d :: r => uptoBulk d + uptoBulkAll r
def uptoBulkEntries {H : Type} : List (Lit × DataW H) → Nat
  | [] => 0
  | x :: r => uptoBulkEntry x + uptoBulkEntries r
def uptoBulkEntry {H : Type} : Lit × DataW H → Nat
  | (.string bytes, d) => bytes.length + uptoBulk d + 1
  | (_, d) => uptoBulk d + 1
 end
def uptoSmall : (H : Type) → List (DataW H) → Bool := fun _ ds => decide (uptoBulkAll ds ≤ 1048576)
def OpenSpec.upto (s : _root_.Go.ChangeSpec) : _root_.Go.OpenSpec := { _root_.Go.OpenSpec.ofChange s with cond := some uptoSmall }

/-- 'murmurlaw08.BookPlays', WHERE WHAT IT READS IS OF BULK AT MOST 1048576: true; the input reads as it did. -/
def bookPlaysUptoRow : OpenClaim := { program := "ytedcgfcmhaeldaa", sum := "6ee218e6610b40645f2118dfed6ed6c65ee8c211ebdb27340b531b64efed80a8", func := "murmur/murmurlaw08.BookPlays", spec := "bookPlays", unfollowed := true, recurses := true, plainKeys := false, apart := false, narrowed := true }
def BookPlaysUptoSaid : Prop := bookPlaysUptoRow.holds Try.pinned (OpenSpec.upto bookPlaysSpec)

/-- 'murmurlaw08.BookOrder', WHERE WHAT IT READS IS OF BULK AT MOST 1048576: true; the input reads as it did. -/
def bookOrderUptoRow : OpenClaim := { program := "ytedcgfcmhaeldaa", sum := "6ee218e6610b40645f2118dfed6ed6c65ee8c211ebdb27340b531b64efed80a8", func := "murmur/murmurlaw08.BookOrder", spec := "bookOrder", unfollowed := true, recurses := true, plainKeys := false, apart := false, narrowed := true }
def BookOrderUptoSaid : Prop := bookOrderUptoRow.holds Try.pinned (OpenSpec.upto bookOrderSpec)

/-- 'murmurlaw08.BookMeets', WHERE WHAT IT READS IS OF BULK AT MOST 1048576: true; the input reads as it did. -/
def bookMeetsUptoRow : OpenClaim := { program := "ytedcgfcmhaeldaa", sum := "6ee218e6610b40645f2118dfed6ed6c65ee8c211ebdb27340b531b64efed80a8", func := "murmur/murmurlaw08.BookMeets", spec := "bookMeets", unfollowed := true, recurses := true, plainKeys := false, apart := false, narrowed := true }
def BookMeetsUptoSaid : Prop := bookMeetsUptoRow.holds Try.pinned (OpenSpec.upto bookMeetsSpec)

/-- 'murmurlaw08.BookGrows', WHERE WHAT IT READS IS OF BULK AT MOST 1048576: true; the input reads as it did. -/
def bookGrowsUptoRow : OpenClaim := { program := "ytedcgfcmhaeldaa", sum := "6ee218e6610b40645f2118dfed6ed6c65ee8c211ebdb27340b531b64efed80a8", func := "murmur/murmurlaw08.BookGrows", spec := "bookGrows", unfollowed := true, recurses := true, plainKeys := false, apart := false, narrowed := true }
def BookGrowsUptoSaid : Prop := bookGrowsUptoRow.holds Try.pinned (OpenSpec.upto bookGrowsSpec)

/-- 'murmurlaw08.BookStands', WHERE WHAT IT READS IS OF BULK AT MOST 1048576: true; the input reads as it did. -/
def bookStandsUptoRow : OpenClaim := { program := "ytedcgfcmhaeldaa", sum := "6ee218e6610b40645f2118dfed6ed6c65ee8c211ebdb27340b531b64efed80a8", func := "murmur/murmurlaw08.BookStands", spec := "bookStands", unfollowed := true, recurses := true, plainKeys := false, apart := false, narrowed := true }
def BookStandsUptoSaid : Prop := bookStandsUptoRow.holds Try.pinned (OpenSpec.upto bookStandsSpec)

/-- 'murmurlaw08.BookNewer', WHERE WHAT IT READS IS OF BULK AT MOST 1048576: true; the input reads as it did. -/
def bookNewerUptoRow : OpenClaim := { program := "ytedcgfcmhaeldaa", sum := "6ee218e6610b40645f2118dfed6ed6c65ee8c211ebdb27340b531b64efed80a8", func := "murmur/murmurlaw08.BookNewer", spec := "bookNewer", unfollowed := true, recurses := true, plainKeys := false, apart := false, narrowed := true }
def BookNewerUptoSaid : Prop := bookNewerUptoRow.holds Try.pinned (OpenSpec.upto bookNewerSpec)

end Rows
end Go.Proofs.Ytedcgfcmhaeldaa
