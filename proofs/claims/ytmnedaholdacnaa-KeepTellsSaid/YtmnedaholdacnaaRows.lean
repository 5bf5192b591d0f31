/-
  No cell of these rows narrows 'for every input' (looked for: loops, veiled, ifaces, maps, wideKeys, modest, calm, conditions, laid).
  DERIVED. THE GIVEN ROWS OF THIS SEAT. 4 by the template 'for every input the law returns true; each argument reads behind the call as it read before'; 0 by the template 'total and deterministic' (their statements: YtmnedaholdacnaaTotals.lean).
  GIVEN WITH THE SEED: the statements are not yours to turn. If you find one false, say at which input.
  Laid BY PROGRAM, IN A SANDBOX (cutbox-rows.mjs): the forced cells as the released guide's own fill.sh prints them over the translation e8e3531d4ff05ec9… (all of the seat's roots in one cut). By AI agents, Wed Nov 11 2026. No macro, syntax, notation, axiom, sorry.
-/
import Derived.Test.YtmnedaholdacnaaChecked
import GoSem.Claim
import GoSem.ClaimJoined
import GoSem.ClaimMapViews
import Derived.JoinedTies
import Derived.KernelRfl
namespace Go.Proofs.Ytmnedaholdacnaa
/- THE CELL 'sum', in the pinned program and in every row, IS THE sha256 OF THE DUMP (.gsa) THAT YtmnedaholdacnaaProg.lean LOADS. Nothing in Lean hashes anything: it is a label: what it is worth is what the hold of that sum in a sandbox is worth. -/
noncomputable def Try.pinned : Pinned := { name := "ytmnedaholdacnaa", sum := "e8e3531d4ff05ec9f1b161c0f328b78faa7a96a4a05f8893c7f1c11390451ac4", checked := Try.checked }
namespace Rows
def none {H : Type} : Left H := { results := [], args := [] }

/-- 'fourinhandlaw05.KeepTells': WHATEVER THE INPUT: true; the input reads as it did. -/
def keepTellsSpec : ChangeSpec := { name := "keepTells", fn := fun _ => fun
  | [d1, d2, d3, d4] => { results := [.lit (.bool true)], args := [d1, d2, d3, d4] }
  | _ => none }
def keepTellsRow : OpenClaim := { program := "ytmnedaholdacnaa", sum := "e8e3531d4ff05ec9f1b161c0f328b78faa7a96a4a05f8893c7f1c11390451ac4", func := "fourinhand/fourinhandlaw05.KeepTells", spec := "keepTells", unfollowed := true, recurses := true, apart := false }
def KeepTellsSaid : Prop := keepTellsRow.holds Try.pinned (OpenSpec.ofChange keepTellsSpec)

/-- ITS FALSE NEIGHBOUR: 'it returns false'. Refute it at one input. -/
def keepTellsWrong : ChangeSpec := { name := "keepTells", fn := fun _ => fun
  | [d1, d2, d3, d4] => { results := [.lit (.bool false)], args := [d1, d2, d3, d4] }
  | _ => none }
def KeepTellsWrongFalsely : Prop := keepTellsRow.holds Try.pinned (OpenSpec.ofChange keepTellsWrong)

/-- 'fourinhandlaw05.KeepParts': WHATEVER THE INPUT: true; the input reads as it did. -/
def keepPartsSpec : ChangeSpec := { name := "keepParts", fn := fun _ => fun
  | [d1, d2, d3, d4] => { results := [.lit (.bool true)], args := [d1, d2, d3, d4] }
  | _ => none }
def keepPartsRow : OpenClaim := { program := "ytmnedaholdacnaa", sum := "e8e3531d4ff05ec9f1b161c0f328b78faa7a96a4a05f8893c7f1c11390451ac4", func := "fourinhand/fourinhandlaw05.KeepParts", spec := "keepParts", unfollowed := true, recurses := true, apart := false }
def KeepPartsSaid : Prop := keepPartsRow.holds Try.pinned (OpenSpec.ofChange keepPartsSpec)

/-- ITS FALSE NEIGHBOUR: 'it returns false'. Refute it at one input. -/
def keepPartsWrong : ChangeSpec := { name := "keepParts", fn := fun _ => fun
  | [d1, d2, d3, d4] => { results := [.lit (.bool false)], args := [d1, d2, d3, d4] }
  | _ => none }
def KeepPartsWrongFalsely : Prop := keepPartsRow.holds Try.pinned (OpenSpec.ofChange keepPartsWrong)

/-- 'fourinhandlaw05.KeepShut': WHATEVER THE INPUT: true; the input reads as it did. -/
def keepShutSpec : ChangeSpec := { name := "keepShut", fn := fun _ => fun
  | [d1, d2, d3] => { results := [.lit (.bool true)], args := [d1, d2, d3] }
  | _ => none }
def keepShutRow : OpenClaim := { program := "ytmnedaholdacnaa", sum := "e8e3531d4ff05ec9f1b161c0f328b78faa7a96a4a05f8893c7f1c11390451ac4", func := "fourinhand/fourinhandlaw05.KeepShut", spec := "keepShut", unfollowed := true, recurses := true, apart := false }
def KeepShutSaid : Prop := keepShutRow.holds Try.pinned (OpenSpec.ofChange keepShutSpec)

/-- ITS FALSE NEIGHBOUR: 'it returns false'. Refute it at one input. -/
def keepShutWrong : ChangeSpec := { name := "keepShut", fn := fun _ => fun
  | [d1, d2, d3] => { results := [.lit (.bool false)], args := [d1, d2, d3] }
  | _ => none }
def KeepShutWrongFalsely : Prop := keepShutRow.holds Try.pinned (OpenSpec.ofChange keepShutWrong)

/-- 'fourinhandlaw05.KeepWrong': WHATEVER THE INPUT: true; the input reads as it did. -/
def keepWrongSpec : ChangeSpec := { name := "keepWrong", fn := fun _ => fun
  | [d1, d2, d3] => { results := [.lit (.bool true)], args := [d1, d2, d3] }
  | _ => none }
def keepWrongRow : OpenClaim := { program := "ytmnedaholdacnaa", sum := "e8e3531d4ff05ec9f1b161c0f328b78faa7a96a4a05f8893c7f1c11390451ac4", func := "fourinhand/fourinhandlaw05.KeepWrong", spec := "keepWrong", unfollowed := true, recurses := true, apart := false }
def KeepWrongSaid : Prop := keepWrongRow.holds Try.pinned (OpenSpec.ofChange keepWrongSpec)

/-- ITS FALSE NEIGHBOUR: 'it returns false'. Refute it at one input. -/
def keepWrongWrong : ChangeSpec := { name := "keepWrong", fn := fun _ => fun
  | [d1, d2, d3] => { results := [.lit (.bool false)], args := [d1, d2, d3] }
  | _ => none }
def KeepWrongWrongFalsely : Prop := keepWrongRow.holds Try.pinned (OpenSpec.ofChange keepWrongWrong)

/- THE SECOND FORM. 'bulk': how many values and letters a reading holds, each counted each time it is reached (what is shared counts as often as it is met; a slice's spare places count too). A statement '..UptoSaid' is the law's where the arguments, and the package variables that the reading takes, are together of bulk at most 1048576: NARROWER than '..Said'. Prove '..Said' where nothing that the law and all that it calls make is longer than what came in: it says more and counts as full. Else prove '..UptoSaid'. A law counts once. -/
mutual
def uptoBulk {H : Type} : DataW H → Nat
  | .lit (.string bytes) => bytes.length + 1
  | .lit _ => 1
  | .nil => 1
  | .ptr d => uptoBulk d + 1
  | .slice elems spare => uptoBulkAll elems + uptoBulkAll spare + 1
  | .agg parts => uptoBulkAll parts + 1
  | .iface _ d => uptoBulk d + 1
  | .map entries => uptoBulkEntries entries + 1
  | .held _ => 1
def uptoBulkAll {H : Type} : List (DataW H) → Nat
  | [] => 0
  | d :: r => uptoBulk d + uptoBulkAll r
def uptoBulkEntries {H : Type} : List (Lit × DataW H) → Nat
  | [] => 0
  | x :: r => uptoBulkEntry x + uptoBulkEntries r
def uptoBulkEntry {H : Type} : Lit × DataW H → Nat
  | (.string bytes, d) => bytes.length + uptoBulk d + 1
  | (_, d) => uptoBulk d + 1
 end
def uptoSmall : (H : Type) → List (DataW H) → Bool := fun _ ds => decide (uptoBulkAll ds ≤ 1048576)
def OpenSpec.upto (s : _root_.Go.ChangeSpec) : _root_.Go.OpenSpec := { _root_.Go.OpenSpec.ofChange s with cond := some uptoSmall }

/-- 'fourinhandlaw05.KeepTells', WHERE WHAT IT READS IS OF BULK AT MOST 1048576: true; the input reads as it did. -/
def keepTellsUptoRow : OpenClaim := { program := "ytmnedaholdacnaa", sum := "e8e3531d4ff05ec9f1b161c0f328b78faa7a96a4a05f8893c7f1c11390451ac4", func := "fourinhand/fourinhandlaw05.KeepTells", spec := "keepTells", unfollowed := true, recurses := true, apart := false, narrowed := true }
def KeepTellsUptoSaid : Prop := keepTellsUptoRow.holds Try.pinned (OpenSpec.upto keepTellsSpec)

/-- 'fourinhandlaw05.KeepParts', WHERE WHAT IT READS IS OF BULK AT MOST 1048576: true; the input reads as it did. -/
def keepPartsUptoRow : OpenClaim := { program := "ytmnedaholdacnaa", sum := "e8e3531d4ff05ec9f1b161c0f328b78faa7a96a4a05f8893c7f1c11390451ac4", func := "fourinhand/fourinhandlaw05.KeepParts", spec := "keepParts", unfollowed := true, recurses := true, apart := false, narrowed := true }
def KeepPartsUptoSaid : Prop := keepPartsUptoRow.holds Try.pinned (OpenSpec.upto keepPartsSpec)

/-- 'fourinhandlaw05.KeepShut', WHERE WHAT IT READS IS OF BULK AT MOST 1048576: true; the input reads as it did. -/
def keepShutUptoRow : OpenClaim := { program := "ytmnedaholdacnaa", sum := "e8e3531d4ff05ec9f1b161c0f328b78faa7a96a4a05f8893c7f1c11390451ac4", func := "fourinhand/fourinhandlaw05.KeepShut", spec := "keepShut", unfollowed := true, recurses := true, apart := false, narrowed := true }
def KeepShutUptoSaid : Prop := keepShutUptoRow.holds Try.pinned (OpenSpec.upto keepShutSpec)

/-- 'fourinhandlaw05.KeepWrong', WHERE WHAT IT READS IS OF BULK AT MOST 1048576: true; the input reads as it did. -/
def keepWrongUptoRow : OpenClaim := { program := "ytmnedaholdacnaa", sum := "e8e3531d4ff05ec9f1b161c0f328b78faa7a96a4a05f8893c7f1c11390451ac4", func := "fourinhand/fourinhandlaw05.KeepWrong", spec := "keepWrong", unfollowed := true, recurses := true, apart := false, narrowed := true }
def KeepWrongUptoSaid : Prop := keepWrongUptoRow.holds Try.pinned (OpenSpec.upto keepWrongSpec)

end Rows
end Go.Proofs.Ytmnedaholdacnaa
