/-
  Contract of the document's try: the instruction of a kind that a word would be.
-/

import Derived.Test.YtcffpmicencfpabZu
namespace Go.Proofs.Ytcffpmicencfpab
open Go.RowKit Ip

/-- A world in which the answer's box is still zero and the instruction's box holds these numbers; both may be written; all that was there is as it was. -/
structure HeldT (w : World) (k a b c d : Int) (W : World) : Prop where
  z0 : W.cell? ⟨w.heap.size, 0, none⟩ = some (.int .i64 0)
  z1 : W.cell? ⟨w.heap.size, 1, none⟩ = some (.int .i64 0)
  z2 : W.cell? ⟨w.heap.size, 2, none⟩ = some (.int .i64 0)
  z3 : W.cell? ⟨w.heap.size, 3, none⟩ = some (.int .i64 0)
  z4 : W.cell? ⟨w.heap.size, 4, none⟩ = some (.int .i64 0)
  x0 : W.cell? ⟨w.heap.size + 1, 0, none⟩ = some (.int .i64 k)
  x1 : W.cell? ⟨w.heap.size + 1, 1, none⟩ = some (.int .i64 a)
  x2 : W.cell? ⟨w.heap.size + 1, 2, none⟩ = some (.int .i64 b)
  x3 : W.cell? ⟨w.heap.size + 1, 3, none⟩ = some (.int .i64 c)
  x4 : W.cell? ⟨w.heap.size + 1, 4, none⟩ = some (.int .i64 d)
  f0 : ∀ o, W.frozen? ⟨w.heap.size, o, none⟩ = false
  f1 : ∀ o, W.frozen? ⟨w.heap.size + 1, o, none⟩ = false
  below : Below w.heap.size w W
  s0 : w.heap.size < W.heap.size
  s1 : w.heap.size + 1 < W.heap.size
theorem HeldT.later {w : World} {k a b c d : Int} {W w1 : World} (h : HeldT w k a b c d W) (hb : Below W.heap.size W w1) : HeldT w k a b c d w1 := by
  obtain ⟨hc, hf⟩ := bcell hb
  exact ⟨(hc _ _ h.s0).trans h.z0, (hc _ _ h.s0).trans h.z1, (hc _ _ h.s0).trans h.z2, (hc _ _ h.s0).trans h.z3, (hc _ _ h.s0).trans h.z4, (hc _ _ h.s1).trans h.x0, (hc _ _ h.s1).trans h.x1, (hc _ _ h.s1).trans h.x2, (hc _ _ h.s1).trans h.x3, (hc _ _ h.s1).trans h.x4,
    fun o => (hf _ _ h.s0).trans (h.f0 o), fun o => (hf _ _ h.s1).trans (h.f1 o), h.below.trans (hb.mono (by have := h.s0; omega)), Nat.lt_of_lt_of_le h.s0 hb.size, Nat.lt_of_lt_of_le h.s1 hb.size⟩
theorem HeldT.start (w : World) (k : Int) (t : TypeId) : HeldT w k 0 0 0 0 ((w.alloc (.cells #[.int .i64 0, .int .i64 0, .int .i64 0, .int .i64 0, .int .i64 0] t)).alloc (.cells #[.int .i64 k, .int .i64 0, .int .i64 0, .int .i64 0, .int .i64 0] t)) := by
  have hn : ∀ o, ((w.alloc (.cells #[.int .i64 0, .int .i64 0, .int .i64 0, .int .i64 0, .int .i64 0] t)).alloc (.cells #[.int .i64 k, .int .i64 0, .int .i64 0, .int .i64 0, .int .i64 0] t)).cell? ⟨w.heap.size, o, none⟩ = (#[.int .i64 0, .int .i64 0, .int .i64 0, .int .i64 0, .int .i64 0] : Array Value)[o]? := fun o => by
    rw [World.cell?_alloc_past _ _ _ (by simp), World.cell?_alloc_at _ _ _ _ rfl]
  have hm : ∀ o, ((w.alloc (.cells #[.int .i64 0, .int .i64 0, .int .i64 0, .int .i64 0, .int .i64 0] t)).alloc (.cells #[.int .i64 k, .int .i64 0, .int .i64 0, .int .i64 0, .int .i64 0] t)).cell? ⟨w.heap.size + 1, o, none⟩ = (#[.int .i64 k, .int .i64 0, .int .i64 0, .int .i64 0, .int .i64 0] : Array Value)[o]? := fun o => by
    rw [World.cell?_alloc_at _ _ _ _ (by simp)]
  refine ⟨hn 0, hn 1, hn 2, hn 3, hn 4, hm 0, hm 1, hm 2, hm 3, hm 4, fun o => ?_, fun o => ?_, ((Below.refl _ _).alloc (Nat.le_refl _) _).alloc (by simp) _, by simp; omega, by simp⟩
  · simp
  · simp
theorem HeldT.set1 {w : World} {k a b c d : Int} {W : World} (h : HeldT w k a b c d W) (v : Int) : HeldT w k v b c d (W.setCell ⟨w.heap.size + 1, 1, none⟩ (.int .i64 v)) := by
  have ne : ∀ o, (⟨w.heap.size + 1, 1, none⟩ : Addr) ≠ ⟨w.heap.size, o, none⟩ := fun o c => by injection c with c1; omega
  have nf : ∀ o, 1 ≠ o → (⟨w.heap.size + 1, 1, none⟩ : Addr) ≠ ⟨w.heap.size + 1, o, none⟩ := fun o c c2 => c (by injection c2)
  refine ⟨by rw [World.cell?_setCell_other _ _ _ _ (ne _)]; exact h.z0, by rw [World.cell?_setCell_other _ _ _ _ (ne _)]; exact h.z1, by rw [World.cell?_setCell_other _ _ _ _ (ne _)]; exact h.z2, by rw [World.cell?_setCell_other _ _ _ _ (ne _)]; exact h.z3, by rw [World.cell?_setCell_other _ _ _ _ (ne _)]; exact h.z4, by rw [World.cell?_setCell_other _ _ _ _ (nf _ (by decide))]; exact h.x0, World.cell?_setCell_same _ _ _ h.x1, by rw [World.cell?_setCell_other _ _ _ _ (nf _ (by decide))]; exact h.x2, by rw [World.cell?_setCell_other _ _ _ _ (nf _ (by decide))]; exact h.x3, by rw [World.cell?_setCell_other _ _ _ _ (nf _ (by decide))]; exact h.x4, fun o => by rw [World.frozen?_setCell]; exact h.f0 o, fun o => by rw [World.frozen?_setCell]; exact h.f1 o, h.below.setCell (Nat.le_succ _) _, by rw [World.size_setCell]; exact h.s0, by rw [World.size_setCell]; exact h.s1⟩
theorem HeldT.set2 {w : World} {k a b c d : Int} {W : World} (h : HeldT w k a b c d W) (v : Int) : HeldT w k a v c d (W.setCell ⟨w.heap.size + 1, 2, none⟩ (.int .i64 v)) := by
  have ne : ∀ o, (⟨w.heap.size + 1, 2, none⟩ : Addr) ≠ ⟨w.heap.size, o, none⟩ := fun o c => by injection c with c1; omega
  have nf : ∀ o, 2 ≠ o → (⟨w.heap.size + 1, 2, none⟩ : Addr) ≠ ⟨w.heap.size + 1, o, none⟩ := fun o c c2 => c (by injection c2)
  refine ⟨by rw [World.cell?_setCell_other _ _ _ _ (ne _)]; exact h.z0, by rw [World.cell?_setCell_other _ _ _ _ (ne _)]; exact h.z1, by rw [World.cell?_setCell_other _ _ _ _ (ne _)]; exact h.z2, by rw [World.cell?_setCell_other _ _ _ _ (ne _)]; exact h.z3, by rw [World.cell?_setCell_other _ _ _ _ (ne _)]; exact h.z4, by rw [World.cell?_setCell_other _ _ _ _ (nf _ (by decide))]; exact h.x0, by rw [World.cell?_setCell_other _ _ _ _ (nf _ (by decide))]; exact h.x1, World.cell?_setCell_same _ _ _ h.x2, by rw [World.cell?_setCell_other _ _ _ _ (nf _ (by decide))]; exact h.x3, by rw [World.cell?_setCell_other _ _ _ _ (nf _ (by decide))]; exact h.x4, fun o => by rw [World.frozen?_setCell]; exact h.f0 o, fun o => by rw [World.frozen?_setCell]; exact h.f1 o, h.below.setCell (Nat.le_succ _) _, by rw [World.size_setCell]; exact h.s0, by rw [World.size_setCell]; exact h.s1⟩
theorem HeldT.set3 {w : World} {k a b c d : Int} {W : World} (h : HeldT w k a b c d W) (v : Int) : HeldT w k a b v d (W.setCell ⟨w.heap.size + 1, 3, none⟩ (.int .i64 v)) := by
  have ne : ∀ o, (⟨w.heap.size + 1, 3, none⟩ : Addr) ≠ ⟨w.heap.size, o, none⟩ := fun o c => by injection c with c1; omega
  have nf : ∀ o, 3 ≠ o → (⟨w.heap.size + 1, 3, none⟩ : Addr) ≠ ⟨w.heap.size + 1, o, none⟩ := fun o c c2 => c (by injection c2)
  refine ⟨by rw [World.cell?_setCell_other _ _ _ _ (ne _)]; exact h.z0, by rw [World.cell?_setCell_other _ _ _ _ (ne _)]; exact h.z1, by rw [World.cell?_setCell_other _ _ _ _ (ne _)]; exact h.z2, by rw [World.cell?_setCell_other _ _ _ _ (ne _)]; exact h.z3, by rw [World.cell?_setCell_other _ _ _ _ (ne _)]; exact h.z4, by rw [World.cell?_setCell_other _ _ _ _ (nf _ (by decide))]; exact h.x0, by rw [World.cell?_setCell_other _ _ _ _ (nf _ (by decide))]; exact h.x1, by rw [World.cell?_setCell_other _ _ _ _ (nf _ (by decide))]; exact h.x2, World.cell?_setCell_same _ _ _ h.x3, by rw [World.cell?_setCell_other _ _ _ _ (nf _ (by decide))]; exact h.x4, fun o => by rw [World.frozen?_setCell]; exact h.f0 o, fun o => by rw [World.frozen?_setCell]; exact h.f1 o, h.below.setCell (Nat.le_succ _) _, by rw [World.size_setCell]; exact h.s0, by rw [World.size_setCell]; exact h.s1⟩
theorem HeldT.set4 {w : World} {k a b c d : Int} {W : World} (h : HeldT w k a b c d W) (v : Int) : HeldT w k a b c v (W.setCell ⟨w.heap.size + 1, 4, none⟩ (.int .i64 v)) := by
  have ne : ∀ o, (⟨w.heap.size + 1, 4, none⟩ : Addr) ≠ ⟨w.heap.size, o, none⟩ := fun o c => by injection c with c1; omega
  have nf : ∀ o, 4 ≠ o → (⟨w.heap.size + 1, 4, none⟩ : Addr) ≠ ⟨w.heap.size + 1, o, none⟩ := fun o c c2 => c (by injection c2)
  refine ⟨by rw [World.cell?_setCell_other _ _ _ _ (ne _)]; exact h.z0, by rw [World.cell?_setCell_other _ _ _ _ (ne _)]; exact h.z1, by rw [World.cell?_setCell_other _ _ _ _ (ne _)]; exact h.z2, by rw [World.cell?_setCell_other _ _ _ _ (ne _)]; exact h.z3, by rw [World.cell?_setCell_other _ _ _ _ (ne _)]; exact h.z4, by rw [World.cell?_setCell_other _ _ _ _ (nf _ (by decide))]; exact h.x0, by rw [World.cell?_setCell_other _ _ _ _ (nf _ (by decide))]; exact h.x1, by rw [World.cell?_setCell_other _ _ _ _ (nf _ (by decide))]; exact h.x2, by rw [World.cell?_setCell_other _ _ _ _ (nf _ (by decide))]; exact h.x3, World.cell?_setCell_same _ _ _ h.x4, fun o => by rw [World.frozen?_setCell]; exact h.f0 o, fun o => by rw [World.frozen?_setCell]; exact h.f1 o, h.below.setCell (Nat.le_succ _) _, by rw [World.size_setCell]; exact h.s0, by rw [World.size_setCell]; exact h.s1⟩

/-- The number that the first places of a form tell. -/
def refN (x : BitVec 32) (F : Nat) : Nat → Int
  | 0 => 0
  | j + 1 => if 0 ≤ (plc F).getD j 0 ∧ x.getLsbD ((plc F).getD j 0).toNat = true then (if j + 1 = pln F ∧ hSg F = true then refN x F j + 2 ^ j - 2 * 2 ^ j else refN x F j + 2 ^ j) else refN x F j
theorem refN_bound (x : BitVec 32) (F : Nat) : ∀ j, -(2 ^ j) ≤ refN x F j ∧ refN x F j < 2 ^ j ∧ (j < pln F → 0 ≤ refN x F j)
  | 0 => by simp [refN]
  | j + 1 => by
    obtain ⟨h1, h2, h3⟩ := refN_bound x F j
    have e : (2 : Int) ^ (j + 1) = 2 * 2 ^ j := by rw [Int.pow_succ]; omega
    have hp : (0 : Int) < 2 ^ j := Int.pow_pos (by omega)
    unfold refN
    rw [e]
    generalize (2 : Int) ^ j = P at *
    split
    · split
      · omega
      · refine ⟨by omega, by omega, fun hj => ?_⟩
        have := h3 (by omega)
        omega
    · refine ⟨by omega, by omega, fun hj => ?_⟩
      exact h3 (by omega)
theorem pln_le2 (F : Nat) : pln F ≤ 21 := by
  unfold pln plc
  repeat' split
  all_goals decide
theorem pow_in (j : Nat) (h : j ≤ 21) : ∃ P : Int, (2 : Int) ^ j = P ∧ 1 ≤ P ∧ P ≤ 2097152 := by
  refine ⟨_, rfl, ?_, ?_⟩
  · have : (0 : Int) < 2 ^ j := Int.pow_pos (by omega)
    omega
  · have : 2 ^ j ≤ 2 ^ 21 := Nat.pow_le_pow_right (by omega) h
    have e : (((2 ^ j : Nat)) : Int) = 2 ^ j := by simp
    omega
theorem int_i64 {a b : Int} (h : a = b) : Value.int .i64 a = .int .i64 b := by rw [h]
end Go.Proofs.Ytcffpmicencfpab
