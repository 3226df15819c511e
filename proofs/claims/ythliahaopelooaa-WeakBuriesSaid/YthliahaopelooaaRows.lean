/-
  No cell of these rows narrows 'for every input' (looked for: loops, veiled, ifaces, maps, wideKeys, modest, calm, conditions, laid).
  DERIVED. THE GIVEN ROWS OF THIS SEAT. 5 by the template 'for every input the law returns true; each argument reads behind the call as it read before'; 0 by the template 'total and deterministic' (their statements: YthliahaopelooaaTotals.lean).
  GIVEN WITH THE SEED: the statements are not yours to turn. If you find one false, say at which input.
  Laid BY PROGRAM, IN A SANDBOX (cutbox-rows.mjs): the forced cells as the released guide's own fill.sh prints them over the translation ff8c0cc7e7057835… (all of the seat's roots in one cut). By AI agents, Wed Nov 11 2026. No macro, syntax, notation, axiom, sorry.
-/
import Derived.Test.YthliahaopelooaaChecked
import GoSem.Claim
import GoSem.ClaimJoined
import GoSem.ClaimMapViews
import Derived.JoinedTies
import Derived.KernelRfl
namespace Go.Proofs.Ythliahaopelooaa
/- THE CELL 'sum', in the pinned program and in every row, IS THE sha256 OF THE DUMP (.gsa) THAT YthliahaopelooaaProg.lean LOADS. Nothing in Lean hashes anything: it is a label: what it is worth is what the hold of that sum in a sandbox is worth. -/
noncomputable def Try.pinned : Pinned := { name := "ythliahaopelooaa", sum := "ff8c0cc7e70578357e5e392db1d93e185998511a6736dd1ff5f5a2b2fe725fb6", checked := Try.checked }
namespace Rows
def none {H : Type} : Left H := { results := [], args := [] }

/-- 'treadwheellaw17.WeakPlays': WHATEVER THE INPUT: true; the input reads as it did. -/
def weakPlaysSpec : ChangeSpec := { name := "weakPlays", fn := fun _ => fun
  | [d] => { results := [.lit (.bool true)], args := [d] }
  | _ => none }
def weakPlaysRow : OpenClaim := { program := "ythliahaopelooaa", sum := "ff8c0cc7e70578357e5e392db1d93e185998511a6736dd1ff5f5a2b2fe725fb6", func := "treadwheel/treadwheellaw17.WeakPlays", spec := "weakPlays", inPlace := ["sync/atomic.AddInt64"], unfollowed := true, recurses := true, apart := false }
def WeakPlaysSaid : Prop := weakPlaysRow.holds Try.pinned (OpenSpec.ofChange weakPlaysSpec)

/-- ITS FALSE NEIGHBOUR: 'it returns false'. Refute it at one input. -/
def weakPlaysWrong : ChangeSpec := { name := "weakPlays", fn := fun _ => fun
  | [d] => { results := [.lit (.bool false)], args := [d] }
  | _ => none }
def WeakPlaysWrongFalsely : Prop := weakPlaysRow.holds Try.pinned (OpenSpec.ofChange weakPlaysWrong)

/-- 'treadwheellaw17.WeakBuries': WHATEVER THE INPUT: true; the input reads as it did. -/
def weakBuriesSpec : ChangeSpec := { name := "weakBuries", fn := fun _ => fun
  | [d1, d2] => { results := [.lit (.bool true)], args := [d1, d2] }
  | _ => none }
def weakBuriesRow : OpenClaim := { program := "ythliahaopelooaa", sum := "ff8c0cc7e70578357e5e392db1d93e185998511a6736dd1ff5f5a2b2fe725fb6", func := "treadwheel/treadwheellaw17.WeakBuries", spec := "weakBuries", inPlace := ["sync/atomic.AddInt64"], unfollowed := true, recurses := true, apart := false }
def WeakBuriesSaid : Prop := weakBuriesRow.holds Try.pinned (OpenSpec.ofChange weakBuriesSpec)

/-- ITS FALSE NEIGHBOUR: 'it returns false'. Refute it at one input. -/
def weakBuriesWrong : ChangeSpec := { name := "weakBuries", fn := fun _ => fun
  | [d1, d2] => { results := [.lit (.bool false)], args := [d1, d2] }
  | _ => none }
def WeakBuriesWrongFalsely : Prop := weakBuriesRow.holds Try.pinned (OpenSpec.ofChange weakBuriesWrong)

/-- 'treadwheellaw17.WeakUses': WHATEVER THE INPUT: true; the input reads as it did. -/
def weakUsesSpec : ChangeSpec := { name := "weakUses", fn := fun _ => fun
  | [d1, d2, d3] => { results := [.lit (.bool true)], args := [d1, d2, d3] }
  | _ => none }
def weakUsesRow : OpenClaim := { program := "ythliahaopelooaa", sum := "ff8c0cc7e70578357e5e392db1d93e185998511a6736dd1ff5f5a2b2fe725fb6", func := "treadwheel/treadwheellaw17.WeakUses", spec := "weakUses", inPlace := ["sync/atomic.AddInt64", "sync/atomic.LoadInt64"], unfollowed := true, recurses := true, apart := false }
def WeakUsesSaid : Prop := weakUsesRow.holds Try.pinned (OpenSpec.ofChange weakUsesSpec)

/-- ITS FALSE NEIGHBOUR: 'it returns false'. Refute it at one input. -/
def weakUsesWrong : ChangeSpec := { name := "weakUses", fn := fun _ => fun
  | [d1, d2, d3] => { results := [.lit (.bool false)], args := [d1, d2, d3] }
  | _ => none }
def WeakUsesWrongFalsely : Prop := weakUsesRow.holds Try.pinned (OpenSpec.ofChange weakUsesWrong)

/-- 'treadwheellaw17.WeakKeeps': WHATEVER THE INPUT: true; the input reads as it did. -/
def weakKeepsSpec : ChangeSpec := { name := "weakKeeps", fn := fun _ => fun
  | [d1, d2] => { results := [.lit (.bool true)], args := [d1, d2] }
  | _ => none }
def weakKeepsRow : OpenClaim := { program := "ythliahaopelooaa", sum := "ff8c0cc7e70578357e5e392db1d93e185998511a6736dd1ff5f5a2b2fe725fb6", func := "treadwheel/treadwheellaw17.WeakKeeps", spec := "weakKeeps", inPlace := ["sync/atomic.AddInt64"], unfollowed := true, recurses := true, apart := false }
def WeakKeepsSaid : Prop := weakKeepsRow.holds Try.pinned (OpenSpec.ofChange weakKeepsSpec)

/-- ITS FALSE NEIGHBOUR: 'it returns false'. Refute it at one input. -/
def weakKeepsWrong : ChangeSpec := { name := "weakKeeps", fn := fun _ => fun
  | [d1, d2] => { results := [.lit (.bool false)], args := [d1, d2] }
  | _ => none }
def WeakKeepsWrongFalsely : Prop := weakKeepsRow.holds Try.pinned (OpenSpec.ofChange weakKeepsWrong)

/-- 'treadwheellaw17.WeakLate': WHATEVER THE INPUT: true; the input reads as it did. -/
def weakLateSpec : ChangeSpec := { name := "weakLate", fn := fun _ => fun
  | [d1, d2, d3] => { results := [.lit (.bool true)], args := [d1, d2, d3] }
  | _ => none }
def weakLateRow : OpenClaim := { program := "ythliahaopelooaa", sum := "ff8c0cc7e70578357e5e392db1d93e185998511a6736dd1ff5f5a2b2fe725fb6", func := "treadwheel/treadwheellaw17.WeakLate", spec := "weakLate", inPlace := ["sync/atomic.AddInt64"], unfollowed := true, recurses := true, apart := false }
def WeakLateSaid : Prop := weakLateRow.holds Try.pinned (OpenSpec.ofChange weakLateSpec)

/-- ITS FALSE NEIGHBOUR: 'it returns false'. Refute it at one input. -/
def weakLateWrong : ChangeSpec := { name := "weakLate", fn := fun _ => fun
  | [d1, d2, d3] => { results := [.lit (.bool false)], args := [d1, d2, d3] }
  | _ => none }
def WeakLateWrongFalsely : Prop := weakLateRow.holds Try.pinned (OpenSpec.ofChange weakLateWrong)

/- THE SECOND FORM. 'bulk': how many values and letters a reading holds, each counted each time it is reached (what is shared counts as often as it is met; a slice's spare places count too). A statement '..UptoSaid' is the law's where the arguments, and the package variables that the reading takes, are together of bulk at most 1048576: NARROWER than '..Said'. Prove '..Said' where nothing that the law and all that it calls make is longer than what came in: it says more and counts as full. Else prove '..UptoSaid'. A law counts once. -/
mutual
def uptoBulk {H : Type} : DataW H → Nat
  | .lit (.string bytes) => bytes.length + 1
  | .lit _ => 1
  | .nil => 1
  | .ptr d => uptoBulk d + 1
  | .slice elems spare => uptoBulkAll elems + uptoBulkAll spare + 1
  | .agg parts => uptoBulkAll parts + 1
  | .iface _ d => uptoBulk d + 1
  | .map entries => uptoBulkEntries entries + 1
  | .held _ => 1
def uptoBulkAll {H : Type} : List (DataW H) → Nat
  | [] => 0
  | d :: r => uptoBulk d + uptoBulkAll r
def uptoBulkEntries {H : Type} : List (Lit × DataW H) → Nat
  | [] => 0
  | x :: r => uptoBulkEntry x + uptoBulkEntries r
def uptoBulkEntry {H : Type} : Lit × DataW H → Nat
  | (.string bytes, d) => bytes.length + uptoBulk d + 1
  | (_, d) => uptoBulk d + 1
 end
def uptoSmall : (H : Type) → List (DataW H) → Bool := fun _ ds => decide (uptoBulkAll ds ≤ 1048576)
def OpenSpec.upto (s : _root_.Go.ChangeSpec) : _root_.Go.OpenSpec := { _root_.Go.OpenSpec.ofChange s with cond := some uptoSmall }

/-- 'treadwheellaw17.WeakPlays', WHERE WHAT IT READS IS OF BULK AT MOST 1048576: true; the input reads as it did. -/
def weakPlaysUptoRow : OpenClaim := { program := "ythliahaopelooaa", sum := "ff8c0cc7e70578357e5e392db1d93e185998511a6736dd1ff5f5a2b2fe725fb6", func := "treadwheel/treadwheellaw17.WeakPlays", spec := "weakPlays", inPlace := ["sync/atomic.AddInt64"], unfollowed := true, recurses := true, apart := false, narrowed := true }
def WeakPlaysUptoSaid : Prop := weakPlaysUptoRow.holds Try.pinned (OpenSpec.upto weakPlaysSpec)

/-- 'treadwheellaw17.WeakBuries', WHERE WHAT IT READS IS OF BULK AT MOST 1048576: true; the input reads as it did. -/
def weakBuriesUptoRow : OpenClaim := { program := "ythliahaopelooaa", sum := "ff8c0cc7e70578357e5e392db1d93e185998511a6736dd1ff5f5a2b2fe725fb6", func := "treadwheel/treadwheellaw17.WeakBuries", spec := "weakBuries", inPlace := ["sync/atomic.AddInt64"], unfollowed := true, recurses := true, apart := false, narrowed := true }
def WeakBuriesUptoSaid : Prop := weakBuriesUptoRow.holds Try.pinned (OpenSpec.upto weakBuriesSpec)

/-- 'treadwheellaw17.WeakUses', WHERE WHAT IT READS IS OF BULK AT MOST 1048576: true; the input reads as it did. -/
def weakUsesUptoRow : OpenClaim := { program := "ythliahaopelooaa", sum := "ff8c0cc7e70578357e5e392db1d93e185998511a6736dd1ff5f5a2b2fe725fb6", func := "treadwheel/treadwheellaw17.WeakUses", spec := "weakUses", inPlace := ["sync/atomic.AddInt64", "sync/atomic.LoadInt64"], unfollowed := true, recurses := true, apart := false, narrowed := true }
def WeakUsesUptoSaid : Prop := weakUsesUptoRow.holds Try.pinned (OpenSpec.upto weakUsesSpec)

/-- 'treadwheellaw17.WeakKeeps', WHERE WHAT IT READS IS OF BULK AT MOST 1048576: true; the input reads as it did. -/
def weakKeepsUptoRow : OpenClaim := { program := "ythliahaopelooaa", sum := "ff8c0cc7e70578357e5e392db1d93e185998511a6736dd1ff5f5a2b2fe725fb6", func := "treadwheel/treadwheellaw17.WeakKeeps", spec := "weakKeeps", inPlace := ["sync/atomic.AddInt64"], unfollowed := true, recurses := true, apart := false, narrowed := true }
def WeakKeepsUptoSaid : Prop := weakKeepsUptoRow.holds Try.pinned (OpenSpec.upto weakKeepsSpec)

/-- 'treadwheellaw17.WeakLate', WHERE WHAT IT READS IS OF BULK AT MOST 1048576: true; the input reads as it did. -/
def weakLateUptoRow : OpenClaim := { program := "ythliahaopelooaa", sum := "ff8c0cc7e70578357e5e392db1d93e185998511a6736dd1ff5f5a2b2fe725fb6", func := "treadwheel/treadwheellaw17.WeakLate", spec := "weakLate", inPlace := ["sync/atomic.AddInt64"], unfollowed := true, recurses := true, apart := false, narrowed := true }
def WeakLateUptoSaid : Prop := weakLateUptoRow.holds Try.pinned (OpenSpec.upto weakLateSpec)

end Rows
end Go.Proofs.Ythliahaopelooaa
