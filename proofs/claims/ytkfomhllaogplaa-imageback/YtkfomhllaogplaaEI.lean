/-
  Contract of package elf's program: a file's program.
-/
import Derived.Test.YtkfomhllaogplaaEH
namespace Go.Proofs.Ytkfomhllaogplaa
open Go.RowKit El Go.Lib
open Classical
set_option linter.unusedSimpArgs false

theorem clone_any (s : ByteArray) (w : World) (hlim : s.size ≤ 281474976710656) : Calls Try.prog 49 #[.string s] w fun e w' => e = .returned (.string s) ∧ Below w.heap.size w w' := by
  go_enter Try.func49, Try.ntmps49
  go_wp2_with (first | (go_at_call 63; refine (Try.stringslite_Clone s _ hlim).mono ?_; rintro e w1 ⟨rfl, hb1⟩))
  go_ret
  exact ⟨rfl, hb1⟩
theorem bEl (w : World) : Below w.heap.size w (w.alloc (.cells Z3 25)) := (Below.refl _ w).alloc (Nat.le_refl _) _
end Go.Proofs.Ytkfomhllaogplaa
