/-
  Contract of the law's Bound: a program with no more segments and bytes than a statement can hold.
-/
import Derived.Test.YtegfpbffgnpebabEQ
namespace Go.Proofs.Ytegfpbffgnpebab
open Go.RowKit El Go.Lib
open Classical
set_option linter.unusedSimpArgs false

def cutS (g : Seg) : Seg := { g with data := g.data.take 200 }
def cutP (x : Prg) : Prg := ⟨x.entry, x.flags, (x.segs.take 18).map cutS⟩
theorem ext_to (d : List UInt8) (m : Nat) : (⟨d.toArray⟩ : ByteArray).extract 0 m = ⟨(d.take m).toArray⟩ := by
  have := ext_mid d 0 m
  rwa [Nat.zero_add, List.drop_zero] at this
theorem take_min (d : List UInt8) : d.take (min d.length 200) = d.take 200 := by
  by_cases h : d.length ≤ 200
  · rw [Nat.min_eq_left h, List.take_length, List.take_of_length_le h]
  · rw [Nat.min_eq_right (by omega)]
/-- While Bound is at work. -/
structure BndAt (w : World) (E F : Int) (v v' : Value) (l : List Seg) (W : World) : Prop where
  box : W.heap[w.heap.size]? = some (.cells #[.int .u32 E, .int .u32 F, v] 29 (0, 0))
  res : W.heap[w.heap.size + 1]? = some (.cells Z3 29 (0, 0))
  own : W.ownsRow (w.heap.size + 2) 26 4 v' l.length (csS l)
  low : Below w.heap.size w W
theorem BndAt.below {w W W' : World} {E F : Int} {v v' : Value} {l : List Seg} (h : BndAt w E F v v' l W) (hb : Below W.heap.size W W') : BndAt w E F v v' l W' :=
  ⟨keptN hb h.box, keptN hb h.res, ownE_below h.own hb, h.low.trans (hb.mono h.low.size)⟩
theorem BndAt.sz {w W : World} {E F : Int} {v v' : Value} {l : List Seg} (h : BndAt w E F v v' l W) : w.heap.size + 2 ≤ W.heap.size := by have := (Array.getElem?_eq_some_iff.1 h.res).1; omega
theorem BndAt.grown {w W W' : World} {E F : Int} {v v' u : Value} {l l' : List Seg} (h : BndAt w E F v v' l W) (hg : W.grownBy W' v'.ownBlock) (ho : W'.ownsRow (w.heap.size + 2) 26 4 u l'.length (csS l')) : BndAt w E F v u l' W' := by
  have hne : ∀ k, k < w.heap.size + 2 → some k ≠ v'.ownBlock := fun k hk e => by
    have := (h.own.lt k e.symm).1; omega
  have hs := h.sz
  exact ⟨by rw [hg.block _ (by omega) (hne _ (by omega))]; exact h.box, by rw [hg.block _ (by omega) (hne _ (by omega))]; exact h.res, ho, h.low.grown hg (by omega) (fun k e => by have := (h.own.lt k e).1; omega)⟩
theorem BndAt.new (w : World) (E F : Int) (v : Value) : BndAt w E F v (.slice (some ⟨w.heap.size + 1 + 1, 0, none⟩) 0 0) [] (((w.alloc (.cells #[.int .u32 E, .int .u32 F, v] 29)).alloc (.cells #[.int .u32 0, .int .u32 0, .slice none 0 0] 29)).alloc (.cells #[] 26)) := by
  refine ⟨?_, ?_, ⟨rfl, .inr ⟨w.heap.size + 1 + 1, 0, #[], rfl, by omega, ?_, Nat.le_refl _, by unfold maxLen; omega, rfl, rfl⟩⟩, (((Below.refl _ w).alloc (Nat.le_refl _) _).alloc (by simp) _).alloc (by simp; omega) _⟩
  · rw [Below.heap_alloc _ _ _ (by simp; omega), Below.heap_alloc _ _ _ (by simp)]; exact heap_alloc_new w _
  · rw [Below.heap_alloc _ _ _ (by simp)]
    have := heap_alloc_new (w.alloc (.cells #[.int .u32 E, .int .u32 F, v] 29)) (.cells #[.int .u32 0, .int .u32 0, .slice none 0 0] 29)
    simpa using this
  · have := heap_alloc_new ((w.alloc (.cells #[.int .u32 E, .int .u32 F, v] 29)).alloc (.cells #[.int .u32 0, .int .u32 0, .slice none 0 0] 29)) (.cells #[] 26)
    simpa using this
theorem cell_four_at (w : World) (n : Nat) (hn : n = w.heap.size) (a b c d : Value) (t : TypeId) : ∀ j u, [a, b, c, d][j]? = some u → (w.alloc (.cells #[a, b, c, d] t)).cell? ((⟨n, 0, none⟩ : Addr).add j) = some u := by
  subst hn; exact cell_four_new w a b c d t
theorem cutP_at (x : Prg) (k : Nat) (g : Seg) (hg : x.segs[k]? = some g) : (x.segs.take (k + 1)).map cutS = (x.segs.take k).map cutS ++ [cutS g] := by
  rw [take_snoc hg, List.map_append]; rfl
end Go.Proofs.Ytegfpbffgnpebab
