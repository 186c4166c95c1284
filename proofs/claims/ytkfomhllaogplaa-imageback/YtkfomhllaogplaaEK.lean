/-
  Contract of package elf's Parse: a file's program, or what is odd.
-/
import Derived.Test.YtkfomhllaogplaaEJ
namespace Go.Proofs.Ytkfomhllaogplaa
open Go.RowKit El Go.Lib
open Classical
set_option linter.unusedSimpArgs false

theorem results_row_tmpE {P : Program} {fn : Func} {p u : Tmp} {ty : TypeId} (h : fn.results = #[.cell p ty, .tmp u]) (tmps : Array Value) (w : World) (g : Nat) (t : TypeId) (cs : Array Value) (fr : Nat × Nat) (d : TypeDesc)
    (hp : tmps.getD p undef = .pointer (some ⟨g, 0, none⟩)) (hg : w.heap[g]? = some (.cells cs t fr))
    (hu : P.underlying ty = some d) (hd : (match d with | .struct _ | .array _ _ => true | _ => false) = true) (hi : (P.info? ty).map (·.size) = some cs.size) :
    (results fn tmps).run P w = .ok (.tuple #[.agg cs, tmps.getD u undef]) w := by
  have hp' : tmps[p]?.getD undef = .pointer (some ⟨g, 0, none⟩) := by simpa using hp
  simp [results, h, hp', asAddr, run_loadVar_row w g t ty cs fr d hg hu hd hi]
theorem own_base {W : World} {B b : Nat} {t : TypeId} {k : Nat} {v : Value} {n : Nat} {xs : List Value} (h : W.ownsRow B t k v n xs) (hb : b ≤ B) : W.ownsRow b t k v n xs := by
  refine ⟨h.1, ?_⟩
  rcases h.2 with h0 | ⟨g, cap, cur, h1, h2, h3⟩
  · exact .inl h0
  · exact .inr ⟨g, cap, cur, h1, by omega, h3⟩
theorem own_other {W W' : World} {B : Nat} {t : TypeId} {k : Nat} {v : Value} {n : Nat} {xs : List Value} (h : W.ownsRow B t k v n xs) (hb : ∀ g, B ≤ g → W'.heap[g]? = W.heap[g]?) : W'.ownsRow B t k v n xs := by
  refine ⟨h.1, ?_⟩
  rcases h.2 with h0 | ⟨g, cap, cur, h1, h2, h3, h4⟩
  · exact .inl h0
  · exact .inr ⟨g, cap, cur, h1, h2, by rw [hb g h2]; exact h3, h4⟩
/-- What attempt leaves behind what the work left. -/
structure Left2 (w w1 w' : World) : Prop where
  size : w'.heap.size = w1.heap.size
  other : ∀ b, b ≠ w.heap.size → w'.heap[b]? = w1.heap[b]?
  below : ∀ B w0, B ≤ w.heap.size → Below B w0 w1 → Below B w0 w'
/-- What the file's work leaves: the program in its variable. -/
structure Got (X : Prg) (bx B : Nat) (v : Value) (W W' : World) : Prop where
  box : W'.heap[bx]? = some (.cells #[.int .u32 (X.entry.toNat : Int), .int .u32 (X.flags.toNat : Int), v] 25 (0, 0))
  own : W'.ownsRow B 42 4 v X.segs.length (csS X.segs)
  other : ∀ b, b < B → b ≠ bx → W'.heap[b]? = W.heap[b]?
  below : ∀ C w0, C ≤ bx → Below C w0 W → Below C w0 W'
abbrev W3 (s : List UInt8) (w : World) : World := ((w.alloc (.cells #[.string ⟨s.toArray⟩] 9)).alloc (.cells Z3 25)).alloc (.cells Z3 25)
theorem w3_facts (s : List UInt8) (w : World) (ob : Obj) : ((W3 s w).alloc ob).heap[w.heap.size]? = some (.cells #[.string ⟨s.toArray⟩] 9 (0, 0)) ∧ ((W3 s w).alloc ob).heap[w.heap.size + 1]? = some (.cells Z3 25 (0, 0)) ∧ ((W3 s w).alloc ob).heap[w.heap.size + 2]? = some (.cells Z3 25 (0, 0)) ∧ ((W3 s w).alloc ob).heap[w.heap.size + 3]? = some ob ∧ (W3 s w).heap.size = w.heap.size + 3 ∧ Below w.heap.size w ((W3 s w).alloc ob) := by
  refine ⟨?_, ?_, ?_, ?_, by simp, (((((Below.refl _ w).alloc (Nat.le_refl _) _).alloc (by simp) _).alloc (by simp; omega) _).alloc (by simp; omega) _)⟩
  · rw [Below.heap_alloc _ _ _ (by simp; omega), Below.heap_alloc _ _ _ (by simp; omega), Below.heap_alloc _ _ _ (by simp)]; exact heap_alloc_new w _
  · rw [Below.heap_alloc _ _ _ (by simp), Below.heap_alloc _ _ _ (by simp)]
    have := heap_alloc_new (w.alloc (.cells #[.string ⟨s.toArray⟩] 9)) (.cells Z3 25)
    simpa using this
  · rw [Below.heap_alloc _ _ _ (by simp)]
    have := heap_alloc_new ((w.alloc (.cells #[.string ⟨s.toArray⟩] 9)).alloc (.cells Z3 25)) (.cells Z3 25)
    simpa using this
  · have := heap_alloc_new (W3 s w) ob
    simpa using this
end Go.Proofs.Ytkfomhllaogplaa
