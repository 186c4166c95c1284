/-
  Contracts of package elf's Write, of the document's Same, and of the law's one.
-/
import Derived.Test.YtkfomhllaogplaaEN
import Derived.Test.YtkfomhllaogplaaEK
namespace Go.Proofs.Ytkfomhllaogplaa
open Go.RowKit El Go.Lib
open Classical
set_option linter.unusedSimpArgs false

/-- Write's answer: the file's bytes. -/
def wrV (x : Prg) (d : Sure := ⟨Classical.propDecidable⟩) : List UInt8 := if chk x.segs d = 0 then El.wr x else []
def sameS (g h : Seg) (d : Sure := ⟨Classical.propDecidable⟩) : Bool := @decide (g = h) (d.of _)
theorem sameS_def (a : BitVec 32) (d : List UInt8) (n f : Int) (a' : BitVec 32) (d' : List UInt8) (n' f' : Int) : sameS ⟨a, d, n, f⟩ ⟨a', d', n', f'⟩ = decide (a = a' ∧ d = d' ∧ n = n' ∧ f = f') := by
  unfold sameS
  exact decide_eq_decide.2 ⟨fun e => by injection e with e1 e2 e3 e4; exact ⟨e1, e2, e3, e4⟩, fun ⟨e1, e2, e3, e4⟩ => by subst e1 e2 e3 e4; rfl⟩
set_option maxRecDepth 100000 in
theorem neqS (a : BitVec 32) (d : List UInt8) (n f : Int) (a' : BitVec 32) (d' : List UInt8) (n' f' : Int) (w : World) :
    (binOp .neq 42 (.agg #[.int .u32 (a.toNat : Int), .string ⟨d.toArray⟩, .int .i64 n, .int .i64 f]) (.agg #[.int .u32 (a'.toNat : Int), .string ⟨d'.toArray⟩, .int .i64 n', .int .i64 f'])).run Try.prog w = .ok (.bool (!sameS ⟨a, d, n, f⟩ ⟨a', d', n', f'⟩)) w := by
  have hA : (a = a') ↔ (a.toNat : Int) = (a'.toNat : Int) := ⟨fun e => by rw [e], fun e => BitVec.eq_of_toNat_eq (by omega)⟩
  rw [sameS_def]
  by_cases h1 : (a.toNat : Int) = (a'.toNat : Int) <;> by_cases h2 : d = d' <;> by_cases h3 : n = n' <;> by_cases h4 : f = f' <;> simp [go_sem, hA, h1, h2, h3, h4]
end Go.Proofs.Ytkfomhllaogplaa
