/-
  Contract of the document's leader.
-/

import Derived.Test.YtcffpmicencfpabZC7
import Derived.Test.YtcffpmicencfpabZD1
namespace Go.Proofs.Ytcffpmicencfpab
open Go.RowKit Go.Lib Go.Sort Ip Bl Pm
set_option linter.unusedSimpArgs false
set_option linter.unusedVariables false

/-- The document's leader, as far as the first k reached addresses tell. -/
def ledK (T : Tx) (L : List Nat) (k : Nat) (a : Nat) : Bool := (L.take k).any fun b => decide (T.err b = 0) && T.ends b && (T.suc b).contains a
theorem ledK_succ {T : Tx} {L : List Nat} {k a b : Nat} (h : L[k]? = some b) : ledK T L (k + 1) a = (ledK T L k a || (decide (T.err b = 0) && T.ends b && hasL (T.suc b) a)) := by
  unfold ledK hasL
  rw [List.take_add_one, h, List.any_append]
  simp
theorem ledK_mono {T : Tx} {L : List Nat} {k n a : Nat} (hk : k ≤ n) (h : ledK T L k a = true) : ledK T L n a = true := by
  unfold ledK at h ⊢
  rw [List.any_eq_true] at h ⊢
  obtain ⟨b, hb, e⟩ := h
  exact ⟨b, (List.take_subset_take_left L hk) hb, e⟩
theorem leader_led (T : Tx) (i : Img) (es L : List Nat) (a : Nat) : leader T (seedsI i es) L a = ((a == i.entry.toNat) || (hasL es a || ledK T L L.length a)) := by
  unfold leader ledK hasL seedsI
  rw [List.take_length, ← Bool.or_assoc]
  congr 1
theorem ltw {w : World} {g o : Nat} {v : Value} (h : w.cell? ⟨g, o, none⟩ = some v) : g < w.heap.size := by
  unfold World.cell? at h
  split at h
  · rename_i e; exact (Array.getElem?_eq_some_iff.1 e).1
  · cases h
/-- Memory: the image's box. -/
structure Ri (w : World) (i : Img) (u : Value) (W : World) : Prop where
  ib : W.heap[w.heap.size]? = some (.cells (imgC i u) 32 (0, 0))
  low : Below w.heap.size w W
  big : w.heap.size < W.heap.size
variable {w : World} {i : Img} {u : Value} {W W' : World}
theorem Ri.ext (h : Ri w i u W) (hb : Below W.heap.size W W') : Ri w i u W' := ⟨keptN hb h.ib, h.low.trans (hb.mono h.low.size), Nat.lt_of_lt_of_le h.big hb.size⟩
theorem Ri.new (w : World) (i : Img) (u : Value) : Ri w i u (w.alloc (.cells (imgC i u) 32)) := ⟨heap_alloc_new _ _, (Below.refl _ w).alloc (Nat.le_refl _) _, by simp⟩
theorem Ri.set (h : Ri w i u W) {g : Nat} (hlo : w.heap.size + 1 ≤ g) (k : Nat) (x : Value) : Ri w i u (W.setCell ⟨g, k, none⟩ x) :=
  ⟨(Below.heap_setCell _ _ _ _ (by show w.heap.size ≠ g; omega)).trans h.ib, h.low.setCell (by show w.heap.size ≤ g; omega) _, by have := h.big; simpa using this⟩
/-- .. with an instruction's box. -/
structure Rj (w : World) (i : Img) (u : Value) (gx : Nat) (X : Ins) (W : World) : Prop where
  ri : Ri w i u W
  xb : W.heap[gx]? = some (.cells (insC X) 23 (0, 0))
theorem Rj.new (h : Ri w i u W) (X : Ins) : Rj w i u W.heap.size X (W.alloc (.cells (insC X) 23)) := ⟨h.ext ((Below.refl _ _).alloc (Nat.le_refl _) _), heap_alloc_new _ _⟩
theorem Rj.five (h : Ri w i u W) {g : Nat} {z0 z1 z2 z3 z4 : Value} (hg : W.heap[g]? = some (.cells #[z0, z1, z2, z3, z4] 23 (0, 0))) (hlo : w.heap.size + 1 ≤ g) (X : Ins) :
    Rj w i u g X (((((W.setCell ⟨g, 0, none⟩ (.int .i64 X.op)).setCell ⟨g, 1, none⟩ (.int .i64 X.rd)).setCell ⟨g, 2, none⟩ (.int .i64 X.rs1)).setCell ⟨g, 3, none⟩ (.int .i64 X.rs2)).setCell ⟨g, 4, none⟩ (.int .i64 X.imm)) := by
  have g1 := heap_setCell_same _ g 0 _ _ (.int .i64 X.op) hg
  have g2 := heap_setCell_same _ g 1 _ _ (.int .i64 X.rd) g1
  have g3 := heap_setCell_same _ g 2 _ _ (.int .i64 X.rs1) g2
  have g4 := heap_setCell_same _ g 3 _ _ (.int .i64 X.rs2) g3
  have g5 := heap_setCell_same _ g 4 _ _ (.int .i64 X.imm) g4
  exact ⟨((((h.set hlo 0 _).set hlo 1 _).set hlo 2 _).set hlo 3 _).set hlo 4 _, by rw [g5]; rfl⟩
/-- .. with a word of a list besides. -/
structure Rl (w : World) (i : Img) (u : Value) (gx : Nat) (X : Ins) (g o b : Nat) (W : World) : Prop where
  rj : Rj w i u gx X W
  cell : W.cell? ⟨g, o, none⟩ = some (.int .u32 (b : Int))
theorem Rj.ext {gx : Nat} {X : Ins} (h : Rj w i u gx X W) (hb : Below W.heap.size W W') : Rj w i u gx X W' := ⟨h.ri.ext hb, keptN hb h.xb⟩
theorem Rl.ext {gx : Nat} {X : Ins} {g o b : Nat} (h : Rl w i u gx X g o b W) (hb : Below W.heap.size W W') : Rl w i u gx X g o b W' := ⟨h.rj.ext hb, by rw [hb.cell (by exact ltw h.cell)]; exact h.cell⟩
theorem Rl.drew {gx : Nat} {X : Ins} {g o b : Nat} (h : Rl w i u gx X g o b W) : Rl w i u gx X g o b W.drew := h.ext (Below.refl _ W).drew
theorem insBox (X : Ins) : (Try.prog.info? 23).map (·.size) = some (insC X).size := by kernel_rfl
end Go.Proofs.Ytcffpmicencfpab
