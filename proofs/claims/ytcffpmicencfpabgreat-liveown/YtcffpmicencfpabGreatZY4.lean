/-
  Contract of the document's Code: a block's instructions.
-/

import Derived.Test.YtcffpmicencfpabGreatZD1
import Derived.Test.YtcffpmicencfpabGreatZY2
import Derived.Test.YtcffpmicencfpabGreatZY3
namespace Go.Proofs.YtcffpmicencfpabGreat
open Go.RowKit Go.Lib Go.Sort Ip Bl Lv Pm
set_option linter.unusedSimpArgs false
set_option linter.unusedVariables false

theorem infoN : (Tryz.prog.info? 38).map (fun i => (i.zero, i.size, i.bytes)) = some (some (.agg #[.int .i64 0, .int .i64 0, .int .i64 0, .int .i64 0, .int .i64 0]), 5, 40) := by kernel_rfl
theorem cell_fiveN (w : World) (a b c d e : Value) (t : TypeId) : ∀ j u, [a, b, c, d, e][j]? = some u → (w.alloc (.cells #[a, b, c, d, e] t)).cell? ((⟨w.heap.size, 0, none⟩ : Addr).add j) = some u := by
  intro j u hj
  match j, hj with
  | 0, hj => simp at hj; subst hj; simp [Addr.add]
  | 1, hj => simp at hj; subst hj; simp [Addr.add]
  | 2, hj => simp at hj; subst hj; simp [Addr.add]
  | 3, hj => simp at hj; subst hj; simp [Addr.add]
  | 4, hj => simp at hj; subst hj; simp [Addr.add]
theorem owns_emptyN (W : World) (B : Nat) (hB : B ≤ W.heap.size) : (W.alloc (.cells #[] 38)).ownsRow B 38 5 (.slice (some ⟨W.heap.size, 0, none⟩) 0 0) 0 [] :=
  ⟨rfl, .inr ⟨W.heap.size, 0, #[], rfl, hB, heap_alloc_new W _, Nat.le_refl _, by decide, rfl, rfl⟩⟩
theorem own_lowN {W : World} {B b : Nat} {t : TypeId} {k : Nat} {v : Value} {n : Nat} {xs : List Value} (h : W.ownsRow B t k v n xs) (hb : b ≤ B) : W.ownsRow b t k v n xs := by
  refine ⟨h.1, ?_⟩
  rcases h.2 with h0 | ⟨g, cap, cur, h1, h2, h3⟩
  · exact .inl h0
  · exact .inr ⟨g, cap, cur, h1, Nat.le_trans hb h2, h3⟩
/-- While Code is at work: the image's box, the block's, and the instructions. -/
structure Ce (w : World) (i : Img) (u : Value) (x y : Nat) (vo : Value) (l : List Ins) (W : World) : Prop where
  ib : W.heap[w.heap.size]? = some (.cells (imgC i u) 26 (0, 0))
  bb : W.heap[w.heap.size + 1]? = some (.cells #[.int .u32 (x : Int), .int .i64 (y : Int)] 45 (0, 0))
  row : W.ownsRow (w.heap.size + 2) 38 5 vo l.length (csN l)
  low : Below w.heap.size w W
  big : w.heap.size + 2 ≤ W.heap.size
variable {w : World} {i : Img} {u : Value} {x y : Nat} {vo : Value} {l : List Ins} {W W' : World}
theorem Ce.ext (h : Ce w i u x y vo l W) (hb : Below W.heap.size W W') : Ce w i u x y vo l W' :=
  ⟨keptN hb h.ib, keptN hb h.bb, h.row.kept (grown_of_below hb) (by cases vo.ownBlock <;> simp), h.low.trans (hb.mono h.low.size), Nat.le_trans h.big hb.size⟩
theorem Ce.app (h : Ce w i u x y vo l W) {o : Obj} {vo' : Value} {z : Ins} (hown : W'.ownsRow (w.heap.size + 2) 38 5 vo' (l.length + 1) (csN l ++ [.int .i64 z.op, .int .i64 z.rd, .int .i64 z.rs1, .int .i64 z.rs2, .int .i64 z.imm])) (hg : (W.alloc o).grownBy W' vo.ownBlock) : Ce w i u x y vo' (l ++ [z]) W' := by
  have ha := h.ext ((Below.refl _ W).alloc (Nat.le_refl _) o)
  have hbig := h.big
  have hne : ∀ k, k < w.heap.size + 2 → some k ≠ vo.ownBlock := fun k hk e => by have := (h.row.lt k e.symm).1; omega
  refine ⟨(hg.block _ (by rw [World.size_alloc]; omega) (hne _ (by omega))).trans ha.ib, (hg.block _ (by rw [World.size_alloc]; omega) (hne _ (by omega))).trans ha.bb, ?_, ha.low.grown hg (by rw [World.size_alloc]; omega) (fun k e => by have := (h.row.lt k e).1; omega), Nat.le_trans ha.big hg.size⟩
  rw [csN_app]
  simpa [csN] using hown
theorem Ce.set (h : Ce w i u x y vo l W) {g : Nat} (hlo : w.heap.size + 2 ≤ g) (hne : vo.ownBlock ≠ some g) (k : Nat) (z : Value) : Ce w i u x y vo l (W.setCell ⟨g, k, none⟩ z) :=
  ⟨(Below.heap_setCell _ _ _ _ (by show w.heap.size ≠ g; omega)).trans h.ib, (Below.heap_setCell _ _ _ _ (by show w.heap.size + 1 ≠ g; omega)).trans h.bb, h.row.kept (grown_setCell W ⟨g, k, none⟩ z) (.inr hne), h.low.setCell (by show w.heap.size ≤ g; omega) _, by have := h.big; simpa using this⟩
theorem code_take (i : Img) (b : Nat × Nat) {j : Nat} (hj : j < b.2) : (codeI i b).take (j + 1) = (codeI i b).take j ++ [insA i ((b.1 + 4 * j) % 4294967296)] := by
  rw [List.take_add_one, code_get i b hj]; rfl
end Go.Proofs.YtcffpmicencfpabGreat
