/-
  No cell of these rows narrows 'for every input' (looked for: loops, veiled, ifaces, maps, wideKeys, modest, calm, conditions, laid).
  DERIVED. THE GIVEN ROWS OF THIS SEAT. 7 by the template 'for every input the law returns true; each argument reads behind the call as it read before'; 0 by the template 'total and deterministic' (their statements: YtbijhkhkigdddaaGreatTotals.lean).
  GIVEN WITH THE SEED: the statements are not yours to turn. If you find one false, say at which input.
  Laid BY PROGRAM, IN A SANDBOX (cutbox-rows.mjs): the forced cells as the released guide's own fill.sh prints them over the translation 517df79770effbd6… (all of the seat's roots in one cut). By AI agents, Wed Nov 11 2026. No macro, syntax, notation, axiom, sorry.
-/
import Derived.Test.YtbijhkhkigdddaaGreatChecked
import GoSem.Claim
import GoSem.ClaimJoined
import GoSem.ClaimMapViews
import Derived.JoinedTies
import Derived.KernelRfl
namespace Go.Proofs.YtbijhkhkigdddaaGreat
/- THE CELL 'sum', in the pinned program and in every row, IS THE sha256 OF THE DUMP (.gsa) THAT YtbijhkhkigdddaaGreatProg.lean LOADS. Nothing in Lean hashes anything: it is a label: what it is worth is what the hold of that sum in a sandbox is worth. -/
noncomputable def Tryz.pinned : Pinned := { name := "ytbijhkhkigdddaagreat", sum := "517df79770effbd66219bcadd15cd7eb2e2824d8eac72b24790e8216c8607942", checked := Tryz.checked }
namespace Rows
def none {H : Type} : Left H := { results := [], args := [] }

/-- 'fourinhandlaw19.FlowTells': WHATEVER THE INPUT: true; the input reads as it did. -/
def flowTellsSpec : ChangeSpec := { name := "flowTells", fn := fun _ => fun
  | [d1, d2, d3, d4, d5] => { results := [.lit (.bool true)], args := [d1, d2, d3, d4, d5] }
  | _ => none }
def flowTellsRow : OpenClaim := { program := "ytbijhkhkigdddaagreat", sum := "517df79770effbd66219bcadd15cd7eb2e2824d8eac72b24790e8216c8607942", func := "fourinhand/fourinhandlaw19.FlowTells", spec := "flowTells", unfollowed := true, recurses := true, named := ["math/bits.divideError", "math/bits.overflowError"], apart := false }
def FlowTellsSaid : Prop := flowTellsRow.holds Tryz.pinned (OpenSpec.ofChange flowTellsSpec)

/-- ITS FALSE NEIGHBOUR: 'it returns false'. Refute it at one input. -/
def flowTellsWrong : ChangeSpec := { name := "flowTells", fn := fun _ => fun
  | [d1, d2, d3, d4, d5] => { results := [.lit (.bool false)], args := [d1, d2, d3, d4, d5] }
  | _ => none }
def FlowTellsWrongFalsely : Prop := flowTellsRow.holds Tryz.pinned (OpenSpec.ofChange flowTellsWrong)

/-- 'fourinhandlaw19.FlowBounds': WHATEVER THE INPUT: true; the input reads as it did. -/
def flowBoundsSpec : ChangeSpec := { name := "flowBounds", fn := fun _ => fun
  | [d1, d2] => { results := [.lit (.bool true)], args := [d1, d2] }
  | _ => none }
def flowBoundsRow : OpenClaim := { program := "ytbijhkhkigdddaagreat", sum := "517df79770effbd66219bcadd15cd7eb2e2824d8eac72b24790e8216c8607942", func := "fourinhand/fourinhandlaw19.FlowBounds", spec := "flowBounds", unfollowed := true, recurses := true, named := ["math/bits.divideError", "math/bits.overflowError"], apart := false }
def FlowBoundsSaid : Prop := flowBoundsRow.holds Tryz.pinned (OpenSpec.ofChange flowBoundsSpec)

/-- ITS FALSE NEIGHBOUR: 'it returns false'. Refute it at one input. -/
def flowBoundsWrong : ChangeSpec := { name := "flowBounds", fn := fun _ => fun
  | [d1, d2] => { results := [.lit (.bool false)], args := [d1, d2] }
  | _ => none }
def FlowBoundsWrongFalsely : Prop := flowBoundsRow.holds Tryz.pinned (OpenSpec.ofChange flowBoundsWrong)

/-- 'fourinhandlaw19.FlowOnce': WHATEVER THE INPUT: true; the input reads as it did. -/
def flowOnceSpec : ChangeSpec := { name := "flowOnce", fn := fun _ => fun
  | [d1, d2] => { results := [.lit (.bool true)], args := [d1, d2] }
  | _ => none }
def flowOnceRow : OpenClaim := { program := "ytbijhkhkigdddaagreat", sum := "517df79770effbd66219bcadd15cd7eb2e2824d8eac72b24790e8216c8607942", func := "fourinhand/fourinhandlaw19.FlowOnce", spec := "flowOnce", unfollowed := true, recurses := true, named := ["math/bits.divideError", "math/bits.overflowError"], apart := false }
def FlowOnceSaid : Prop := flowOnceRow.holds Tryz.pinned (OpenSpec.ofChange flowOnceSpec)

/-- ITS FALSE NEIGHBOUR: 'it returns false'. Refute it at one input. -/
def flowOnceWrong : ChangeSpec := { name := "flowOnce", fn := fun _ => fun
  | [d1, d2] => { results := [.lit (.bool false)], args := [d1, d2] }
  | _ => none }
def FlowOnceWrongFalsely : Prop := flowOnceRow.holds Tryz.pinned (OpenSpec.ofChange flowOnceWrong)

/-- 'fourinhandlaw19.FlowWrong': WHATEVER THE INPUT: true; the input reads as it did. -/
def flowWrongSpec : ChangeSpec := { name := "flowWrong", fn := fun _ => fun
  | [d1, d2, d3] => { results := [.lit (.bool true)], args := [d1, d2, d3] }
  | _ => none }
def flowWrongRow : OpenClaim := { program := "ytbijhkhkigdddaagreat", sum := "517df79770effbd66219bcadd15cd7eb2e2824d8eac72b24790e8216c8607942", func := "fourinhand/fourinhandlaw19.FlowWrong", spec := "flowWrong", unfollowed := true, recurses := true, named := ["math/bits.divideError", "math/bits.overflowError"], apart := false }
def FlowWrongSaid : Prop := flowWrongRow.holds Tryz.pinned (OpenSpec.ofChange flowWrongSpec)

/-- ITS FALSE NEIGHBOUR: 'it returns false'. Refute it at one input. -/
def flowWrongWrong : ChangeSpec := { name := "flowWrong", fn := fun _ => fun
  | [d1, d2, d3] => { results := [.lit (.bool false)], args := [d1, d2, d3] }
  | _ => none }
def FlowWrongWrongFalsely : Prop := flowWrongRow.holds Tryz.pinned (OpenSpec.ofChange flowWrongWrong)

/-- 'fourinhandlaw19.FlowNew': WHATEVER THE INPUT: true; the input reads as it did. -/
def flowNewSpec : ChangeSpec := { name := "flowNew", fn := fun _ => fun
  | [d] => { results := [.lit (.bool true)], args := [d] }
  | _ => none }
def flowNewRow : OpenClaim := { program := "ytbijhkhkigdddaagreat", sum := "517df79770effbd66219bcadd15cd7eb2e2824d8eac72b24790e8216c8607942", func := "fourinhand/fourinhandlaw19.FlowNew", spec := "flowNew", unfollowed := true, recurses := true, named := ["math/bits.divideError", "math/bits.overflowError"], apart := false }
def FlowNewSaid : Prop := flowNewRow.holds Tryz.pinned (OpenSpec.ofChange flowNewSpec)

/-- ITS FALSE NEIGHBOUR: 'it returns false'. Refute it at one input. -/
def flowNewWrong : ChangeSpec := { name := "flowNew", fn := fun _ => fun
  | [d] => { results := [.lit (.bool false)], args := [d] }
  | _ => none }
def FlowNewWrongFalsely : Prop := flowNewRow.holds Tryz.pinned (OpenSpec.ofChange flowNewWrong)

/-- 'fourinhandlaw19.FlowDue': WHATEVER THE INPUT: true; the input reads as it did. -/
def flowDueSpec : ChangeSpec := { name := "flowDue", fn := fun _ => fun
  | [d1, d2, d3] => { results := [.lit (.bool true)], args := [d1, d2, d3] }
  | _ => none }
def flowDueRow : OpenClaim := { program := "ytbijhkhkigdddaagreat", sum := "517df79770effbd66219bcadd15cd7eb2e2824d8eac72b24790e8216c8607942", func := "fourinhand/fourinhandlaw19.FlowDue", spec := "flowDue", unfollowed := true, recurses := true, named := ["math/bits.divideError", "math/bits.overflowError"], apart := false }
def FlowDueSaid : Prop := flowDueRow.holds Tryz.pinned (OpenSpec.ofChange flowDueSpec)

/-- ITS FALSE NEIGHBOUR: 'it returns false'. Refute it at one input. -/
def flowDueWrong : ChangeSpec := { name := "flowDue", fn := fun _ => fun
  | [d1, d2, d3] => { results := [.lit (.bool false)], args := [d1, d2, d3] }
  | _ => none }
def FlowDueWrongFalsely : Prop := flowDueRow.holds Tryz.pinned (OpenSpec.ofChange flowDueWrong)

/-- 'fourinhandlaw19.FlowSends': WHATEVER THE INPUT: true; the input reads as it did. -/
def flowSendsSpec : ChangeSpec := { name := "flowSends", fn := fun _ => fun
  | [d1, d2, d3, d4, d5] => { results := [.lit (.bool true)], args := [d1, d2, d3, d4, d5] }
  | _ => none }
def flowSendsRow : OpenClaim := { program := "ytbijhkhkigdddaagreat", sum := "517df79770effbd66219bcadd15cd7eb2e2824d8eac72b24790e8216c8607942", func := "fourinhand/fourinhandlaw19.FlowSends", spec := "flowSends", unfollowed := true, recurses := true, named := ["math/bits.divideError", "math/bits.overflowError"], apart := false }
def FlowSendsSaid : Prop := flowSendsRow.holds Tryz.pinned (OpenSpec.ofChange flowSendsSpec)

/-- ITS FALSE NEIGHBOUR: 'it returns false'. Refute it at one input. -/
def flowSendsWrong : ChangeSpec := { name := "flowSends", fn := fun _ => fun
  | [d1, d2, d3, d4, d5] => { results := [.lit (.bool false)], args := [d1, d2, d3, d4, d5] }
  | _ => none }
def FlowSendsWrongFalsely : Prop := flowSendsRow.holds Tryz.pinned (OpenSpec.ofChange flowSendsWrong)

/- THE SECOND FORM. 'bulk': how many values and letters a reading holds, each counted each time it is reached (what is shared counts as often as it is met; a slice's spare places count too). A statement '..UptoSaid' is the law's where the arguments, and the package variables that the reading takes, are together of bulk at most 1048576: NARROWER than '..Said'. Prove '..Said' where nothing that the law and all that it calls make is longer than what came in: it says more and counts as full. Else prove '..UptoSaid'. A law counts once. -/
mutual
def uptoBulk {H : Type} : DataW H → Nat
  | .lit (.string bytes) => bytes.length + 1
  | .lit _ => 1
  | .nil => 1
  | .ptr d => uptoBulk d + 1
  | .slice elems spare => uptoBulkAll elems + uptoBulkAll spare + 1
  | .agg parts => uptoBulkAll parts + 1
  | .iface _ d => uptoBulk d + 1
  | .map entries => uptoBulkEntries entries + 1
  | .held _ => 1
def uptoBulkAll {H : Type} : List (DataW H) → Nat
  | [] => 0
  | d :: r => uptoBulk d + uptoBulkAll r
def uptoBulkEntries {H : Type} : List (Lit × DataW H) → Nat
  | [] => 0
  | x :: r => uptoBulkEntry x + uptoBulkEntries r
def uptoBulkEntry {H : Type} : Lit × DataW H → Nat
  | (.string bytes, d) => bytes.length + uptoBulk d + 1
  | (_, d) => uptoBulk d + 1
 end
def uptoSmall : (H : Type) → List (DataW H) → Bool := fun _ ds => decide (uptoBulkAll ds ≤ 1048576)
def OpenSpec.upto (s : _root_.Go.ChangeSpec) : _root_.Go.OpenSpec := { _root_.Go.OpenSpec.ofChange s with cond := some uptoSmall }

/-- 'fourinhandlaw19.FlowTells', WHERE WHAT IT READS IS OF BULK AT MOST 1048576: true; the input reads as it did. -/
def flowTellsUptoRow : OpenClaim := { program := "ytbijhkhkigdddaagreat", sum := "517df79770effbd66219bcadd15cd7eb2e2824d8eac72b24790e8216c8607942", func := "fourinhand/fourinhandlaw19.FlowTells", spec := "flowTells", unfollowed := true, recurses := true, named := ["math/bits.divideError", "math/bits.overflowError"], apart := false, narrowed := true }
def FlowTellsUptoSaid : Prop := flowTellsUptoRow.holds Tryz.pinned (OpenSpec.upto flowTellsSpec)

/-- 'fourinhandlaw19.FlowBounds', WHERE WHAT IT READS IS OF BULK AT MOST 1048576: true; the input reads as it did. -/
def flowBoundsUptoRow : OpenClaim := { program := "ytbijhkhkigdddaagreat", sum := "517df79770effbd66219bcadd15cd7eb2e2824d8eac72b24790e8216c8607942", func := "fourinhand/fourinhandlaw19.FlowBounds", spec := "flowBounds", unfollowed := true, recurses := true, named := ["math/bits.divideError", "math/bits.overflowError"], apart := false, narrowed := true }
def FlowBoundsUptoSaid : Prop := flowBoundsUptoRow.holds Tryz.pinned (OpenSpec.upto flowBoundsSpec)

/-- 'fourinhandlaw19.FlowOnce', WHERE WHAT IT READS IS OF BULK AT MOST 1048576: true; the input reads as it did. -/
def flowOnceUptoRow : OpenClaim := { program := "ytbijhkhkigdddaagreat", sum := "517df79770effbd66219bcadd15cd7eb2e2824d8eac72b24790e8216c8607942", func := "fourinhand/fourinhandlaw19.FlowOnce", spec := "flowOnce", unfollowed := true, recurses := true, named := ["math/bits.divideError", "math/bits.overflowError"], apart := false, narrowed := true }
def FlowOnceUptoSaid : Prop := flowOnceUptoRow.holds Tryz.pinned (OpenSpec.upto flowOnceSpec)

/-- 'fourinhandlaw19.FlowWrong', WHERE WHAT IT READS IS OF BULK AT MOST 1048576: true; the input reads as it did. -/
def flowWrongUptoRow : OpenClaim := { program := "ytbijhkhkigdddaagreat", sum := "517df79770effbd66219bcadd15cd7eb2e2824d8eac72b24790e8216c8607942", func := "fourinhand/fourinhandlaw19.FlowWrong", spec := "flowWrong", unfollowed := true, recurses := true, named := ["math/bits.divideError", "math/bits.overflowError"], apart := false, narrowed := true }
def FlowWrongUptoSaid : Prop := flowWrongUptoRow.holds Tryz.pinned (OpenSpec.upto flowWrongSpec)

/-- 'fourinhandlaw19.FlowNew', WHERE WHAT IT READS IS OF BULK AT MOST 1048576: true; the input reads as it did. -/
def flowNewUptoRow : OpenClaim := { program := "ytbijhkhkigdddaagreat", sum := "517df79770effbd66219bcadd15cd7eb2e2824d8eac72b24790e8216c8607942", func := "fourinhand/fourinhandlaw19.FlowNew", spec := "flowNew", unfollowed := true, recurses := true, named := ["math/bits.divideError", "math/bits.overflowError"], apart := false, narrowed := true }
def FlowNewUptoSaid : Prop := flowNewUptoRow.holds Tryz.pinned (OpenSpec.upto flowNewSpec)

/-- 'fourinhandlaw19.FlowDue', WHERE WHAT IT READS IS OF BULK AT MOST 1048576: true; the input reads as it did. -/
def flowDueUptoRow : OpenClaim := { program := "ytbijhkhkigdddaagreat", sum := "517df79770effbd66219bcadd15cd7eb2e2824d8eac72b24790e8216c8607942", func := "fourinhand/fourinhandlaw19.FlowDue", spec := "flowDue", unfollowed := true, recurses := true, named := ["math/bits.divideError", "math/bits.overflowError"], apart := false, narrowed := true }
def FlowDueUptoSaid : Prop := flowDueUptoRow.holds Tryz.pinned (OpenSpec.upto flowDueSpec)

/-- 'fourinhandlaw19.FlowSends', WHERE WHAT IT READS IS OF BULK AT MOST 1048576: true; the input reads as it did. -/
def flowSendsUptoRow : OpenClaim := { program := "ytbijhkhkigdddaagreat", sum := "517df79770effbd66219bcadd15cd7eb2e2824d8eac72b24790e8216c8607942", func := "fourinhand/fourinhandlaw19.FlowSends", spec := "flowSends", unfollowed := true, recurses := true, named := ["math/bits.divideError", "math/bits.overflowError"], apart := false, narrowed := true }
def FlowSendsUptoSaid : Prop := flowSendsUptoRow.holds Tryz.pinned (OpenSpec.upto flowSendsSpec)

end Rows
end Go.Proofs.YtbijhkhkigdddaaGreat
