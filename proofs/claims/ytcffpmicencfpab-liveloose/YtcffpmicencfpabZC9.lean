/-
  Contracts of the document's layer 8: has, Ends, After, At.
  Contract of the document's After (layer 8).
-/
import Derived.Deep.DeepCutAuto
import Derived.Deep.CutRange
import Derived.Test.YtcffpmicencfpabZC4
import Derived.Test.YtcffpmicencfpabZr
import Derived.Test.YtcffpmicencfpabZw
namespace Go.Proofs.Ytcffpmicencfpab
open Go.RowKit Go.Lib Go.Sort Ip Bl
set_option linter.unusedSimpArgs false
set_option linter.unusedVariables false

def hasL (l : List Nat) (a : Nat) : Bool := l.contains a
theorem hasL_iff {l : List Nat} {a : Nat} : hasL l a = true ↔ a ∈ l := List.contains_iff_mem
theorem take_hit {l : List Nat} {k x a : Nat} (h : l[k]? = some x) (hno : a ∉ l.take k) (hne : x ≠ a) : a ∉ l.take (k + 1) := by
  rw [List.take_add_one, h]
  simp only [Option.toList_some, List.mem_append, List.mem_singleton]
  exact fun e => e.elim hno (fun e => hne e.symm)
end Go.Proofs.Ytcffpmicencfpab
namespace Go.Proofs.Ytcffpmicencfpab
open Go.RowKit Go.Lib Go.Sort Ip Bl
set_option linter.unusedSimpArgs false
set_option linter.unusedVariables false

/-- While the document's After is at work. -/
structure AR (w : World) (op rd rs1 rs2 imm : Int) (W : World) : Prop where
  box : W.heap[w.heap.size]? = some (.cells #[.int .i64 op, .int .i64 rd, .int .i64 rs1, .int .i64 rs2, .int .i64 imm] 23 (0, 0))
  low : Below w.heap.size w W
theorem AR.own {w W : World} {op rd rs1 rs2 imm : Int} (h : AR w op rd rs1 rs2 imm W) (l : List Nat) (cs : Array Value) (hcs : cs.toList = l.map wordV) (hl : l.length ≤ 2) : (W.alloc (.cells cs 24)).ownsRow w.heap.size 24 1 (.slice (some ⟨W.heap.size, 0, none⟩) l.length l.length) l.length (l.map wordV) ∧ Below w.heap.size w (W.alloc (.cells cs 24)) := by
  have := World.ownsRow_lit (e := 24) (size := 1) W cs l.length h.low.size (by unfold maxLen; omega) (by
    have e := congrArg List.length hcs
    rw [List.length_map, Array.length_toList] at e
    omega)
  rw [hcs] at this
  exact ⟨this, h.low.alloc h.low.size _⟩
end Go.Proofs.Ytcffpmicencfpab
