/-
  No cell of these rows narrows 'for every input' (looked for: loops, veiled, ifaces, maps, wideKeys, modest, calm, conditions, laid).
  DERIVED. THE GIVEN ROWS OF THIS SEAT. 6 by the template 'for every input the law returns true; each argument reads behind the call as it read before'; 0 by the template 'total and deterministic' (their statements: YtkfomhllaogplaaTotals.lean).
  GIVEN WITH THE SEED: the statements are not yours to turn. If you find one false, say at which input.
  Laid BY PROGRAM, IN A SANDBOX (cutbox-rows.mjs): the forced cells as the released guide's own fill.sh prints them over the translation 7e4409a7eb6135f3… (all of the seat's roots in one cut). By AI agents, Wed Nov 11 2026. No macro, syntax, notation, axiom, sorry.
-/
import Derived.Test.YtkfomhllaogplaaChecked
import GoSem.Claim
import GoSem.ClaimJoined
import GoSem.ClaimMapViews
import Derived.JoinedTies
import Derived.KernelRfl
namespace Go.Proofs.Ytkfomhllaogplaa
/- THE CELL 'sum', in the pinned program and in every row, IS THE sha256 OF THE DUMP (.gsa) THAT YtkfomhllaogplaaProg.lean LOADS. Nothing in Lean hashes anything: it is a label: what it is worth is what the hold of that sum in a sandbox is worth. -/
noncomputable def Try.pinned : Pinned := { name := "ytkfomhllaogplaa", sum := "7e4409a7eb6135f3e9354a15f20c950bdad999c01938149de3d60a11a5337f7f", checked := Try.checked }
namespace Rows
def none {H : Type} : Left H := { results := [], args := [] }

/-- 'whetstonelaw07.ImageOf': WHATEVER THE INPUT: true; the input reads as it did. -/
def imageOfSpec : ChangeSpec := { name := "imageOf", fn := fun _ => fun
  | [d1, d2] => { results := [.lit (.bool true)], args := [d1, d2] }
  | _ => none }
def imageOfRow : OpenClaim := { program := "ytkfomhllaogplaa", sum := "7e4409a7eb6135f3e9354a15f20c950bdad999c01938149de3d60a11a5337f7f", func := "whetstone/whetstonelaw07.ImageOf", spec := "imageOf", inPlace := ["internal/abi.NoEscape"], unfollowed := true, recurses := true, apart := false }
def ImageOfSaid : Prop := imageOfRow.holds Try.pinned (OpenSpec.ofChange imageOfSpec)

/-- ITS FALSE NEIGHBOUR: 'it returns false'. Refute it at one input. -/
def imageOfWrong : ChangeSpec := { name := "imageOf", fn := fun _ => fun
  | [d1, d2] => { results := [.lit (.bool false)], args := [d1, d2] }
  | _ => none }
def ImageOfWrongFalsely : Prop := imageOfRow.holds Try.pinned (OpenSpec.ofChange imageOfWrong)

/-- 'whetstonelaw07.ImageWith': WHATEVER THE INPUT: true; the input reads as it did. -/
def imageWithSpec : ChangeSpec := { name := "imageWith", fn := fun _ => fun
  | [d1, d2] => { results := [.lit (.bool true)], args := [d1, d2] }
  | _ => none }
def imageWithRow : OpenClaim := { program := "ytkfomhllaogplaa", sum := "7e4409a7eb6135f3e9354a15f20c950bdad999c01938149de3d60a11a5337f7f", func := "whetstone/whetstonelaw07.ImageWith", spec := "imageWith", inPlace := ["internal/abi.NoEscape"], unfollowed := true, recurses := true, apart := false }
def ImageWithSaid : Prop := imageWithRow.holds Try.pinned (OpenSpec.ofChange imageWithSpec)

/-- ITS FALSE NEIGHBOUR: 'it returns false'. Refute it at one input. -/
def imageWithWrong : ChangeSpec := { name := "imageWith", fn := fun _ => fun
  | [d1, d2] => { results := [.lit (.bool false)], args := [d1, d2] }
  | _ => none }
def ImageWithWrongFalsely : Prop := imageWithRow.holds Try.pinned (OpenSpec.ofChange imageWithWrong)

/-- 'whetstonelaw07.ImageLoads': WHATEVER THE INPUT: true; the input reads as it did. -/
def imageLoadsSpec : ChangeSpec := { name := "imageLoads", fn := fun _ => fun
  | [d] => { results := [.lit (.bool true)], args := [d] }
  | _ => none }
def imageLoadsRow : OpenClaim := { program := "ytkfomhllaogplaa", sum := "7e4409a7eb6135f3e9354a15f20c950bdad999c01938149de3d60a11a5337f7f", func := "whetstone/whetstonelaw07.ImageLoads", spec := "imageLoads", inPlace := ["internal/abi.NoEscape"], unfollowed := true, recurses := true, apart := false }
def ImageLoadsSaid : Prop := imageLoadsRow.holds Try.pinned (OpenSpec.ofChange imageLoadsSpec)

/-- ITS FALSE NEIGHBOUR: 'it returns false'. Refute it at one input. -/
def imageLoadsWrong : ChangeSpec := { name := "imageLoads", fn := fun _ => fun
  | [d] => { results := [.lit (.bool false)], args := [d] }
  | _ => none }
def ImageLoadsWrongFalsely : Prop := imageLoadsRow.holds Try.pinned (OpenSpec.ofChange imageLoadsWrong)

/-- 'whetstonelaw07.ImageBack': WHATEVER THE INPUT: true; the input reads as it did. -/
def imageBackSpec : ChangeSpec := { name := "imageBack", fn := fun _ => fun
  | [d1, d2] => { results := [.lit (.bool true)], args := [d1, d2] }
  | _ => none }
def imageBackRow : OpenClaim := { program := "ytkfomhllaogplaa", sum := "7e4409a7eb6135f3e9354a15f20c950bdad999c01938149de3d60a11a5337f7f", func := "whetstone/whetstonelaw07.ImageBack", spec := "imageBack", inPlace := ["internal/abi.NoEscape"], unfollowed := true, recurses := true, apart := false }
def ImageBackSaid : Prop := imageBackRow.holds Try.pinned (OpenSpec.ofChange imageBackSpec)

/-- ITS FALSE NEIGHBOUR: 'it returns false'. Refute it at one input. -/
def imageBackWrong : ChangeSpec := { name := "imageBack", fn := fun _ => fun
  | [d1, d2] => { results := [.lit (.bool false)], args := [d1, d2] }
  | _ => none }
def ImageBackWrongFalsely : Prop := imageBackRow.holds Try.pinned (OpenSpec.ofChange imageBackWrong)

/-- 'whetstonelaw07.ImageAt': WHATEVER THE INPUT: true; the input reads as it did. -/
def imageAtSpec : ChangeSpec := { name := "imageAt", fn := fun _ => fun
  | [d1, d2] => { results := [.lit (.bool true)], args := [d1, d2] }
  | _ => none }
def imageAtRow : OpenClaim := { program := "ytkfomhllaogplaa", sum := "7e4409a7eb6135f3e9354a15f20c950bdad999c01938149de3d60a11a5337f7f", func := "whetstone/whetstonelaw07.ImageAt", spec := "imageAt", inPlace := ["internal/abi.NoEscape"], unfollowed := true, recurses := true, apart := false }
def ImageAtSaid : Prop := imageAtRow.holds Try.pinned (OpenSpec.ofChange imageAtSpec)

/-- ITS FALSE NEIGHBOUR: 'it returns false'. Refute it at one input. -/
def imageAtWrong : ChangeSpec := { name := "imageAt", fn := fun _ => fun
  | [d1, d2] => { results := [.lit (.bool false)], args := [d1, d2] }
  | _ => none }
def ImageAtWrongFalsely : Prop := imageAtRow.holds Try.pinned (OpenSpec.ofChange imageAtWrong)

/-- 'whetstonelaw07.ImageSegs': WHATEVER THE INPUT: true; the input reads as it did. -/
def imageSegsSpec : ChangeSpec := { name := "imageSegs", fn := fun _ => fun
  | [d] => { results := [.lit (.bool true)], args := [d] }
  | _ => none }
def imageSegsRow : OpenClaim := { program := "ytkfomhllaogplaa", sum := "7e4409a7eb6135f3e9354a15f20c950bdad999c01938149de3d60a11a5337f7f", func := "whetstone/whetstonelaw07.ImageSegs", spec := "imageSegs", inPlace := ["internal/abi.NoEscape"], unfollowed := true, recurses := true, apart := false }
def ImageSegsSaid : Prop := imageSegsRow.holds Try.pinned (OpenSpec.ofChange imageSegsSpec)

/-- ITS FALSE NEIGHBOUR: 'it returns false'. Refute it at one input. -/
def imageSegsWrong : ChangeSpec := { name := "imageSegs", fn := fun _ => fun
  | [d] => { results := [.lit (.bool false)], args := [d] }
  | _ => none }
def ImageSegsWrongFalsely : Prop := imageSegsRow.holds Try.pinned (OpenSpec.ofChange imageSegsWrong)

/- THE SECOND FORM. 'bulk': how many values and letters a reading holds, each counted each time it is reached (what is shared counts as often as it is met; a slice's spare places count too). A statement '..UptoSaid' is the law's where the arguments, and the package variables that the reading takes, are together of bulk at most 1048576: NARROWER than '..Said'. Prove '..Said' where nothing that the law and all that it calls make is longer than what came in: it says more and counts as full. Else prove '..UptoSaid'. A law counts once. -/
mutual
def uptoBulk {H : Type} : DataW H → Nat
  | .lit (.string bytes) => bytes.length + 1
  | .lit _ => 1
  | .nil => 1
  | .ptr d => uptoBulk d + 1
  | .slice elems spare => uptoBulkAll elems + uptoBulkAll spare + 1
  | .agg parts => uptoBulkAll parts + 1
  | .iface _ d => uptoBulk d + 1
  | .map entries => uptoBulkEntries entries + 1
  | .held _ => 1
def uptoBulkAll {H : Type} : List (DataW H) → Nat
  | [] => 0
  | d :: r => uptoBulk d + uptoBulkAll r
def uptoBulkEntries {H : Type} : List (Lit × DataW H) → Nat
  | [] => 0
  | x :: r => uptoBulkEntry x + uptoBulkEntries r
def uptoBulkEntry {H : Type} : Lit × DataW H → Nat
  | (.string bytes, d) => bytes.length + uptoBulk d + 1
  | (_, d) => uptoBulk d + 1
 end
def uptoSmall : (H : Type) → List (DataW H) → Bool := fun _ ds => decide (uptoBulkAll ds ≤ 1048576)
def OpenSpec.upto (s : _root_.Go.ChangeSpec) : _root_.Go.OpenSpec := { _root_.Go.OpenSpec.ofChange s with cond := some uptoSmall }

/-- 'whetstonelaw07.ImageOf', WHERE WHAT IT READS IS OF BULK AT MOST 1048576: true; the input reads as it did. -/
def imageOfUptoRow : OpenClaim := { program := "ytkfomhllaogplaa", sum := "7e4409a7eb6135f3e9354a15f20c950bdad999c01938149de3d60a11a5337f7f", func := "whetstone/whetstonelaw07.ImageOf", spec := "imageOf", inPlace := ["internal/abi.NoEscape"], unfollowed := true, recurses := true, apart := false, narrowed := true }
def ImageOfUptoSaid : Prop := imageOfUptoRow.holds Try.pinned (OpenSpec.upto imageOfSpec)

/-- 'whetstonelaw07.ImageWith', WHERE WHAT IT READS IS OF BULK AT MOST 1048576: true; the input reads as it did. -/
def imageWithUptoRow : OpenClaim := { program := "ytkfomhllaogplaa", sum := "7e4409a7eb6135f3e9354a15f20c950bdad999c01938149de3d60a11a5337f7f", func := "whetstone/whetstonelaw07.ImageWith", spec := "imageWith", inPlace := ["internal/abi.NoEscape"], unfollowed := true, recurses := true, apart := false, narrowed := true }
def ImageWithUptoSaid : Prop := imageWithUptoRow.holds Try.pinned (OpenSpec.upto imageWithSpec)

/-- 'whetstonelaw07.ImageLoads', WHERE WHAT IT READS IS OF BULK AT MOST 1048576: true; the input reads as it did. -/
def imageLoadsUptoRow : OpenClaim := { program := "ytkfomhllaogplaa", sum := "7e4409a7eb6135f3e9354a15f20c950bdad999c01938149de3d60a11a5337f7f", func := "whetstone/whetstonelaw07.ImageLoads", spec := "imageLoads", inPlace := ["internal/abi.NoEscape"], unfollowed := true, recurses := true, apart := false, narrowed := true }
def ImageLoadsUptoSaid : Prop := imageLoadsUptoRow.holds Try.pinned (OpenSpec.upto imageLoadsSpec)

/-- 'whetstonelaw07.ImageBack', WHERE WHAT IT READS IS OF BULK AT MOST 1048576: true; the input reads as it did. -/
def imageBackUptoRow : OpenClaim := { program := "ytkfomhllaogplaa", sum := "7e4409a7eb6135f3e9354a15f20c950bdad999c01938149de3d60a11a5337f7f", func := "whetstone/whetstonelaw07.ImageBack", spec := "imageBack", inPlace := ["internal/abi.NoEscape"], unfollowed := true, recurses := true, apart := false, narrowed := true }
def ImageBackUptoSaid : Prop := imageBackUptoRow.holds Try.pinned (OpenSpec.upto imageBackSpec)

/-- 'whetstonelaw07.ImageAt', WHERE WHAT IT READS IS OF BULK AT MOST 1048576: true; the input reads as it did. -/
def imageAtUptoRow : OpenClaim := { program := "ytkfomhllaogplaa", sum := "7e4409a7eb6135f3e9354a15f20c950bdad999c01938149de3d60a11a5337f7f", func := "whetstone/whetstonelaw07.ImageAt", spec := "imageAt", inPlace := ["internal/abi.NoEscape"], unfollowed := true, recurses := true, apart := false, narrowed := true }
def ImageAtUptoSaid : Prop := imageAtUptoRow.holds Try.pinned (OpenSpec.upto imageAtSpec)

/-- 'whetstonelaw07.ImageSegs', WHERE WHAT IT READS IS OF BULK AT MOST 1048576: true; the input reads as it did. -/
def imageSegsUptoRow : OpenClaim := { program := "ytkfomhllaogplaa", sum := "7e4409a7eb6135f3e9354a15f20c950bdad999c01938149de3d60a11a5337f7f", func := "whetstone/whetstonelaw07.ImageSegs", spec := "imageSegs", inPlace := ["internal/abi.NoEscape"], unfollowed := true, recurses := true, apart := false, narrowed := true }
def ImageSegsUptoSaid : Prop := imageSegsUptoRow.holds Try.pinned (OpenSpec.upto imageSegsSpec)

end Rows
end Go.Proofs.Ytkfomhllaogplaa
