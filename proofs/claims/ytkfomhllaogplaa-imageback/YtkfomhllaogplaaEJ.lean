/-
  Contract of package elf's program, where its table is all there.
-/
import Derived.Test.YtkfomhllaogplaaEI
namespace Go.Proofs.Ytkfomhllaogplaa
open Go.RowKit El Go.Lib
open Classical
set_option linter.unusedSimpArgs false

theorem infoS : (Try.prog.info? 42).map (fun i => (i.zero, i.size, i.bytes)) = some (some (.agg #[.int .u32 0, .string ⟨#[]⟩, .int .i64 0, .int .i64 0]), 4, 40) := by kernel_rfl
theorem info_partsE {P : Program} {t : TypeId} {z : Value} {s b : Nat} (h : (P.info? t).map (fun i => (i.zero, i.size, i.bytes)) = some (some z, s, b)) : ∃ i, P.info? t = some i ∧ i.zero = some z ∧ i.size = s ∧ i.bytes = b := by
  cases hi : P.info? t with
  | none => rw [hi] at h; cases h
  | some i => rw [hi] at h; simp at h; exact ⟨i, rfl, h.1, h.2.1, h.2.2⟩
theorem cell_four_new (w : World) (a b c d : Value) (t : TypeId) : ∀ j u, [a, b, c, d][j]? = some u → (w.alloc (.cells #[a, b, c, d] t)).cell? ((⟨w.heap.size, 0, none⟩ : Addr).add j) = some u := by
  intro j u hj
  match j, hj with
  | 0, hj => simp at hj; subst hj; simp [Addr.add]
  | 1, hj => simp at hj; subst hj; simp [Addr.add]
  | 2, hj => simp at hj; subst hj; simp [Addr.add]
  | 3, hj => simp at hj; subst hj; simp [Addr.add]
theorem PAt.put {w W : World} {E F : Int} {v v' : Value} {l : List Seg} (r : W.heap[w.heap.size]? = some (.cells Z3 25 (0, 0))) (b : W.heap[w.heap.size + 1]? = some (.cells #[.int .u32 E, .int .u32 F, v] 25 (0, 0))) (hl : Below w.heap.size w W)
    (ho : W.ownsRow (w.heap.size + 2) 42 4 v' l.length (csS l)) : PAt w E F v' l (W.setCell ⟨w.heap.size + 1, 2, none⟩ v') := by
  refine ⟨?_, ?_, hl.setCell (by simp) _, ownsRow_setCell_below ho (by simp) _⟩
  · rw [set_other _ _ _ _ (by simp)]; exact r
  · simp [World.setCell, Array.getElem?_modify, b]
theorem PAt.new1 (w : World) (E F : Int) (n m : Nat) : PAt w E F (.slice none 0 0) [] ((((w.alloc (.cells Z3 25)).drewN n).alloc (.cells #[.int .u32 E, .int .u32 F, .slice none 0 0] 25)).drewN m) := by
  have hb := (bEl w).trans (drew_low (w.alloc (.cells Z3 25)) n _)
  refine ⟨?_, ?_, (hb.alloc (by simp [World.drewN]) _).trans (drew_low _ _ _), World.ownsRow_nil _ _ _ _⟩
  · show (World.alloc _ _).heap[w.heap.size]? = _
    rw [Below.heap_alloc _ _ _ (by simp [World.drewN])]
    exact heap_alloc_new w _
  · have := heap_alloc_new ((w.alloc (.cells Z3 25)).drewN n) (.cells #[.int .u32 E, .int .u32 F, .slice none 0 0] 25)
    simpa [World.drewN] using this
theorem PAt.cells {w W : World} {E F : Int} {v : Value} {l : List Seg} {g c : Nat} (h : PAt w E F v l W) (hv : v = .slice (some ⟨g, 0, none⟩) l.length c) : ∃ cur, W.heap[g]? = some (.cells cur 42 (0, 0)) := by
  rcases h.own.2 with ⟨e, _⟩ | ⟨g', cap, cur, e, _, h3, _⟩
  · rw [hv] at e; injection e with e; cases e
  · rw [hv] at e; injection e with e1 e2 e3; injection e1 with e1; injection e1 with e4; subst e4; exact ⟨cur, h3⟩
theorem PAt.str {w W : World} {E F : Int} {v : Value} {l : List Seg} {g c k : Nat} {x : Seg} (h : PAt w E F v l W) (hv : v = .slice (some ⟨g, 0, none⟩) l.length c) (hx : l[k]? = some x) : W.cell? ⟨g, k * 4 + 1, none⟩ = some (.string ⟨x.data.toArray⟩) := by
  have hk := (List.getElem?_eq_some_iff.1 hx).1
  have hS := sls_of_owns h.own
  rw [hv] at hS
  have := (SlS.at (slsCells hS (by omega)).1 k x hx).2.1
  rwa [Nat.zero_add] at this
theorem PAt.thaw {w W : World} {E F : Int} {v : Value} {l : List Seg} {g c k : Nat} (h : PAt w E F v l W) (hv : v = .slice (some ⟨g, 0, none⟩) l.length c) : W.frozen? ⟨g, k * 4 + 1, none⟩ = false := by
  obtain ⟨cur, hc⟩ := h.cells hv
  simp [World.frozen?, hc]
theorem own_slice {W : World} {B : Nat} {t : TypeId} {k : Nat} {v : Value} {n : Nat} {xs : List Value} (h : W.ownsRow B t k v n xs) : ∃ p m c, v = .slice p m c := by
  rcases h.2 with ⟨e, _⟩ | ⟨g, cap, cur, e, _⟩ <;> exact ⟨_, _, _, e⟩
theorem own_slice' {W : World} {B : Nat} {t : TypeId} {k : Nat} {v : Value} {n : Nat} {xs : List Value} (h : W.ownsRow B t k v n xs) : ∃ p c, v = .slice p n c := by
  rcases h.2 with ⟨e, e0⟩ | ⟨g, cap, cur, e, _⟩
  · exact ⟨none, 0, by rw [e, e0]⟩
  · exact ⟨_, _, e⟩
theorem own_some {W : World} {B : Nat} {t : TypeId} {k : Nat} {p : Option Addr} {c n : Nat} {xs : List Value} (h : W.ownsRow B t k (.slice p n c) n xs) (hn : 0 < n) : ∃ g, p = some ⟨g, 0, none⟩ := by
  rcases h.2 with ⟨_, e0⟩ | ⟨g, cap, cur, e, _⟩
  · omega
  · injection e with e1; exact ⟨g, e1⟩
theorem own_low {W : World} {B b : Nat} {t : TypeId} {k : Nat} {v : Value} {n : Nat} {xs : List Value} {cs : Array Value} (h : W.ownsRow B t k v n xs) (hb : b < B) : (W.setRow b cs).ownsRow b t k v n xs := by
  refine ⟨h.1, ?_⟩
  rcases h.2 with h0 | ⟨g, cap, cur, h1, h2, h3, h4⟩
  · exact .inl h0
  · exact .inr ⟨g, cap, cur, h1, by omega, by rw [setRow_other _ _ _ _ (by omega)]; exact h3, h4⟩
theorem segs_fits (s : List UInt8) (p n : Nat) : ∀ x ∈ segs s p n, Fits x := fun x hx => by
  obtain ⟨i, hi⟩ := List.getElem?_of_mem hx
  have hl := (List.getElem?_eq_some_iff.1 hi).1
  rw [segs_len] at hl
  rw [segs_get _ _ _ _ hl] at hi
  injection hi with hi; subst hi
  have := le4_lt s (p + 32 * i + 20)
  exact ⟨by simp only [segAt]; omega, by simp only [segAt]; omega⟩
theorem segs_data (s : List UInt8) (p n : Nat) : ∀ x ∈ segs s p n, x.data.length ≤ s.length := fun x hx => by
  obtain ⟨i, hi⟩ := List.getElem?_of_mem hx
  have hl := (List.getElem?_eq_some_iff.1 hi).1
  rw [segs_len] at hl
  rw [segs_get _ _ _ _ hl] at hi
  injection hi with hi; subst hi
  simp only [segAt, List.length_take, List.length_drop]; omega

end Go.Proofs.Ytkfomhllaogplaa
