/-
  Contracts of package elf's written and Write: a program's file.
-/
import Derived.Test.YtkfomhllaogplaaEM
namespace Go.Proofs.Ytkfomhllaogplaa
open Go.RowKit El Go.Lib
open Classical
set_option linter.unusedSimpArgs false

/-- While written is at work: the program's box, the builder. -/
structure WrAt (w : World) (x : Prg) (v : Value) (l : List UInt8) (W : World) : Prop where
  box : W.heap[w.heap.size]? = some (.cells #[.int .u32 (x.entry.toNat : Int), .int .u32 (x.flags.toNat : Int), v] 25 (0, 0))
  bd : Bd (w.heap.size + 1) l W
  low : Below w.heap.size w W
theorem WrAt.step {w W W' : World} {x : Prg} {v : Value} {l l' : List UInt8} (h : WrAt w x v l W) (hB : Bd (w.heap.size + 1) l' W') (hK : Kp (w.heap.size + 1) W W') : WrAt w x v l' W' :=
  ⟨hK.at h.box (by omega) (by decide), hB, h.low.trans (hK.low.mono (by omega))⟩
theorem WrAt.alloc {w W : World} {x : Prg} {v : Value} {l : List UInt8} (h : WrAt w x v l W) (o : Obj) : WrAt w x v l (W.alloc o) :=
  h.step (h.bd.alloc o) ((Kp.refl _ _).alloc (Nat.le_of_lt h.bd.lt) o)
theorem wr_bound {x : Prg} (hc : chk x.segs = 0) (hd : (datas x.segs).length ≤ 1073741824) (k : Nat) : (head x ++ rows (x.segs.take k) (52 + 32 * x.segs.length)).length ≤ 1000 ∧ 52 + 32 * x.segs.length + (datas (x.segs.take k)).length < 4294967296 := by
  have := (chk_zero hc).1
  have h2 := datas_take x.segs k
  refine ⟨?_, by omega⟩
  rw [List.length_append, head_len, rows_len, List.length_take]; omega
end Go.Proofs.Ytkfomhllaogplaa
