/-
  What the laws of layer 7 stand on: a program that was cut, its text in a box.
-/
import Derived.Test.YtkfomhllaogplaaGR
import Derived.Test.YtkfomhllaogplaaEV
import Derived.Test.YtkfomhllaogplaaEW
namespace Go.Proofs.Ytkfomhllaogplaa
open Go.RowKit El Go.Lib
open Classical
set_option linter.unusedSimpArgs false

theorem cut_small (x : Prg) : ∀ g ∈ (cutP x).segs, g.data.length ≤ 200 := fun g hg => by
  obtain ⟨y, _, rfl⟩ := List.mem_map.1 hg
  simp only [cutS, List.length_take]; omega
theorem cut_small' (x : Prg) : ∀ g ∈ (cutP x).segs, g.data.length ≤ 4000000 := fun g hg => Nat.le_trans (cut_small x g hg) (by decide)
theorem cut_small6 (x : Prg) : ∀ g ∈ (cutP x).segs, g.data.length ≤ 65536 := fun g hg => Nat.le_trans (cut_small x g hg) (by decide)
/-- A text, in its box. -/
structure IL (w : World) (b : Nat) (A E : Int) (K : Nat) (u : Value) (ws : List Nat) (W : World) : Prop where
  ib : W.heap[b]? = some (.cells (imgC A E K u) 29 (0, 0))
  s : SlW W u ws
  low : Below w.heap.size w W
theorem IL.below {w W W' : World} {b : Nat} {A E : Int} {K : Nat} {u : Value} {ws : List Nat} (h : IL w b A E K u ws W) (hb : Below W.heap.size W W') : IL w b A E K u ws W' := ⟨keptN hb h.ib, h.s.below hb, h.low.trans (hb.mono h.low.size)⟩
theorem IL.new {w W : World} {A E : Int} {K : Nat} {u : Value} {ws : List Nat} (hS : SlW W u ws) (hl : Below w.heap.size w W) : IL w W.heap.size A E K u ws ((W.alloc (.cells Z4 29)).setRow W.heap.size (imgC A E K u)) := by
  have hb : Below W.heap.size W ((W.alloc (.cells Z4 29)).setRow W.heap.size (imgC A E K u)) := below_setRowE ((Below.refl _ W).alloc (Nat.le_refl _) _) (Nat.le_refl _) _
  exact ⟨setRow_heap _ _ _ _ _ _ (heap_alloc_new W _), hS.below hb, hl.trans (hb.mono hl.size)⟩
/-- An address of 32 bits. -/
theorem addr_of {z : Int} (h0 : 0 ≤ z) (h1 : z < 4294967296) : ∃ a : BitVec 32, (a.toNat : Int) = z := by
  refine ⟨BitVec.ofNat 32 z.toNat, ?_⟩
  rw [BitVec.toNat_ofNat, Nat.mod_eq_of_lt (by omega)]; omega
theorem and1_of (c : Int) : ∃ r : Nat, r ≤ 1 ∧ bits .and .i64 c 1 = (r : Int) := by
  obtain ⟨d, hd, h⟩ := mask64 1 (by omega) c
  exact ⟨d, by omega, h⟩
end Go.Proofs.Ytkfomhllaogplaa
