/-
  No cell of these rows narrows 'for every input' (looked for: loops, veiled, ifaces, maps, wideKeys, modest, calm, conditions, laid).
  DERIVED. THE GIVEN ROWS OF THIS SEAT. 4 by the template 'for every input the law returns true; each argument reads behind the call as it read before'; 0 by the template 'total and deterministic' (their statements: YtcffpmicencfpaaTotals.lean).
  GIVEN WITH THE SEED: the statements are not yours to turn. If you find one false, say at which input.
  Laid BY PROGRAM, IN A SANDBOX (cutbox-rows.mjs): the forced cells as the released guide's own fill.sh prints them over the translation e63ded2a93818eca… (all of the seat's roots in one cut). By AI agents, Wed Nov 11 2026. No macro, syntax, notation, axiom, sorry.
-/
import Derived.Test.YtcffpmicencfpaaChecked
import GoSem.Claim
import GoSem.ClaimJoined
import GoSem.ClaimMapViews
import Derived.JoinedTies
import Derived.KernelRfl
namespace Go.Proofs.Ytcffpmicencfpaa
/- THE CELL 'sum', in the pinned program and in every row, IS THE sha256 OF THE DUMP (.gsa) THAT YtcffpmicencfpaaProg.lean LOADS. Nothing in Lean hashes anything: it is a label: what it is worth is what the hold of that sum in a sandbox is worth. -/
noncomputable def Try.pinned : Pinned := { name := "ytcffpmicencfpaa", sum := "e63ded2a93818eca2c738ef503b1f1f98f603d6896eb35dc10b489e837a7db8c", checked := Try.checked }
namespace Rows
def none {H : Type} : Left H := { results := [], args := [] }

/-- 'whetstonelaw09.LiveOne': WHATEVER THE INPUT: true; the input reads as it did. -/
def liveOneSpec : ChangeSpec := { name := "liveOne", fn := fun _ => fun
  | [d1, d2, d3] => { results := [.lit (.bool true)], args := [d1, d2, d3] }
  | _ => none }
def liveOneRow : OpenClaim := { program := "ytcffpmicencfpaa", sum := "e63ded2a93818eca2c738ef503b1f1f98f603d6896eb35dc10b489e837a7db8c", func := "whetstone/whetstonelaw09.LiveOne", spec := "liveOne", unfollowed := true, recurses := true, apart := false }
def LiveOneSaid : Prop := liveOneRow.holds Try.pinned (OpenSpec.ofChange liveOneSpec)

/-- ITS FALSE NEIGHBOUR: 'it returns false'. Refute it at one input. -/
def liveOneWrong : ChangeSpec := { name := "liveOne", fn := fun _ => fun
  | [d1, d2, d3] => { results := [.lit (.bool false)], args := [d1, d2, d3] }
  | _ => none }
def LiveOneWrongFalsely : Prop := liveOneRow.holds Try.pinned (OpenSpec.ofChange liveOneWrong)

/-- 'whetstonelaw09.LiveKeeps': WHATEVER THE INPUT: true; the input reads as it did. -/
def liveKeepsSpec : ChangeSpec := { name := "liveKeeps", fn := fun _ => fun
  | [d1, d2, d3] => { results := [.lit (.bool true)], args := [d1, d2, d3] }
  | _ => none }
def liveKeepsRow : OpenClaim := { program := "ytcffpmicencfpaa", sum := "e63ded2a93818eca2c738ef503b1f1f98f603d6896eb35dc10b489e837a7db8c", func := "whetstone/whetstonelaw09.LiveKeeps", spec := "liveKeeps", unfollowed := true, recurses := true, apart := false }
def LiveKeepsSaid : Prop := liveKeepsRow.holds Try.pinned (OpenSpec.ofChange liveKeepsSpec)

/-- ITS FALSE NEIGHBOUR: 'it returns false'. Refute it at one input. -/
def liveKeepsWrong : ChangeSpec := { name := "liveKeeps", fn := fun _ => fun
  | [d1, d2, d3] => { results := [.lit (.bool false)], args := [d1, d2, d3] }
  | _ => none }
def LiveKeepsWrongFalsely : Prop := liveKeepsRow.holds Try.pinned (OpenSpec.ofChange liveKeepsWrong)

/-- 'whetstonelaw09.LiveMore': WHATEVER THE INPUT: true; the input reads as it did. -/
def liveMoreSpec : ChangeSpec := { name := "liveMore", fn := fun _ => fun
  | [d1, d2, d3] => { results := [.lit (.bool true)], args := [d1, d2, d3] }
  | _ => none }
def liveMoreRow : OpenClaim := { program := "ytcffpmicencfpaa", sum := "e63ded2a93818eca2c738ef503b1f1f98f603d6896eb35dc10b489e837a7db8c", func := "whetstone/whetstonelaw09.LiveMore", spec := "liveMore", unfollowed := true, recurses := true, apart := false }
def LiveMoreSaid : Prop := liveMoreRow.holds Try.pinned (OpenSpec.ofChange liveMoreSpec)

/-- ITS FALSE NEIGHBOUR: 'it returns false'. Refute it at one input. -/
def liveMoreWrong : ChangeSpec := { name := "liveMore", fn := fun _ => fun
  | [d1, d2, d3] => { results := [.lit (.bool false)], args := [d1, d2, d3] }
  | _ => none }
def LiveMoreWrongFalsely : Prop := liveMoreRow.holds Try.pinned (OpenSpec.ofChange liveMoreWrong)

/-- 'whetstonelaw09.LiveDead': WHATEVER THE INPUT: true; the input reads as it did. -/
def liveDeadSpec : ChangeSpec := { name := "liveDead", fn := fun _ => fun
  | [d1, d2] => { results := [.lit (.bool true)], args := [d1, d2] }
  | _ => none }
def liveDeadRow : OpenClaim := { program := "ytcffpmicencfpaa", sum := "e63ded2a93818eca2c738ef503b1f1f98f603d6896eb35dc10b489e837a7db8c", func := "whetstone/whetstonelaw09.LiveDead", spec := "liveDead", unfollowed := true, recurses := true, apart := false }
def LiveDeadSaid : Prop := liveDeadRow.holds Try.pinned (OpenSpec.ofChange liveDeadSpec)

/-- ITS FALSE NEIGHBOUR: 'it returns false'. Refute it at one input. -/
def liveDeadWrong : ChangeSpec := { name := "liveDead", fn := fun _ => fun
  | [d1, d2] => { results := [.lit (.bool false)], args := [d1, d2] }
  | _ => none }
def LiveDeadWrongFalsely : Prop := liveDeadRow.holds Try.pinned (OpenSpec.ofChange liveDeadWrong)

/- THE SECOND FORM. 'bulk': how many values and letters a reading holds, each counted each time it is reached (what is shared counts as often as it is met; a slice's spare places count too). A statement '..UptoSaid' is the law's where the arguments, and the package variables that the reading takes, are together of bulk at most 1048576: NARROWER than '..Said'. Prove '..Said' where nothing that the law and all that it calls make is longer than what came in: it says more and counts as full. Else prove '..UptoSaid'. A law counts once. -/
mutual
def uptoBulk {H : Type} : DataW H → Nat
  | .lit (.string bytes) => bytes.length + 1
  | .lit _ => 1
  | .nil => 1
  | .ptr d => uptoBulk d + 1
  | .slice elems spare => uptoBulkAll elems + uptoBulkAll spare + 1
  | .agg parts => uptoBulkAll parts + 1
  | .iface _ d => uptoBulk d + 1
  | .map entries => uptoBulkEntries entries + 1
  | .held _ => 1
def uptoBulkAll {H : Type} : List (DataW H) → Nat
  | [] => 0
  | d :: r => uptoBulk d + uptoBulkAll r
def uptoBulkEntries {H : Type} : List (Lit × DataW H) → Nat
  | [] => 0
  | x :: r => uptoBulkEntry x + uptoBulkEntries r
def uptoBulkEntry {H : Type} : Lit × DataW H → Nat
  | (.string bytes, d) => bytes.length + uptoBulk d + 1
  | (_, d) => uptoBulk d + 1
 end
def uptoSmall : (H : Type) → List (DataW H) → Bool := fun _ ds => decide (uptoBulkAll ds ≤ 1048576)
def OpenSpec.upto (s : _root_.Go.ChangeSpec) : _root_.Go.OpenSpec := { _root_.Go.OpenSpec.ofChange s with cond := some uptoSmall }

/-- 'whetstonelaw09.LiveOne', WHERE WHAT IT READS IS OF BULK AT MOST 1048576: true; the input reads as it did. -/
def liveOneUptoRow : OpenClaim := { program := "ytcffpmicencfpaa", sum := "e63ded2a93818eca2c738ef503b1f1f98f603d6896eb35dc10b489e837a7db8c", func := "whetstone/whetstonelaw09.LiveOne", spec := "liveOne", unfollowed := true, recurses := true, apart := false, narrowed := true }
def LiveOneUptoSaid : Prop := liveOneUptoRow.holds Try.pinned (OpenSpec.upto liveOneSpec)

/-- 'whetstonelaw09.LiveKeeps', WHERE WHAT IT READS IS OF BULK AT MOST 1048576: true; the input reads as it did. -/
def liveKeepsUptoRow : OpenClaim := { program := "ytcffpmicencfpaa", sum := "e63ded2a93818eca2c738ef503b1f1f98f603d6896eb35dc10b489e837a7db8c", func := "whetstone/whetstonelaw09.LiveKeeps", spec := "liveKeeps", unfollowed := true, recurses := true, apart := false, narrowed := true }
def LiveKeepsUptoSaid : Prop := liveKeepsUptoRow.holds Try.pinned (OpenSpec.upto liveKeepsSpec)

/-- 'whetstonelaw09.LiveMore', WHERE WHAT IT READS IS OF BULK AT MOST 1048576: true; the input reads as it did. -/
def liveMoreUptoRow : OpenClaim := { program := "ytcffpmicencfpaa", sum := "e63ded2a93818eca2c738ef503b1f1f98f603d6896eb35dc10b489e837a7db8c", func := "whetstone/whetstonelaw09.LiveMore", spec := "liveMore", unfollowed := true, recurses := true, apart := false, narrowed := true }
def LiveMoreUptoSaid : Prop := liveMoreUptoRow.holds Try.pinned (OpenSpec.upto liveMoreSpec)

/-- 'whetstonelaw09.LiveDead', WHERE WHAT IT READS IS OF BULK AT MOST 1048576: true; the input reads as it did. -/
def liveDeadUptoRow : OpenClaim := { program := "ytcffpmicencfpaa", sum := "e63ded2a93818eca2c738ef503b1f1f98f603d6896eb35dc10b489e837a7db8c", func := "whetstone/whetstonelaw09.LiveDead", spec := "liveDead", unfollowed := true, recurses := true, apart := false, narrowed := true }
def LiveDeadUptoSaid : Prop := liveDeadUptoRow.holds Try.pinned (OpenSpec.upto liveDeadSpec)

end Rows
end Go.Proofs.Ytcffpmicencfpaa
