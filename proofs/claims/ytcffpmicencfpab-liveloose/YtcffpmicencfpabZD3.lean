/-
  The document's Find as plain lists: its two loops, round by round. No program in sight.
  The walk of the document's Find.
-/

import Derived.Test.YtcffpmicencfpabZC7
import Derived.Test.YtcffpmicencfpabZD2
set_option linter.unusedVariables false
namespace Go.Proofs.Ytcffpmicencfpab
namespace Bl
open Pm

theorem foldE_snoc (err : Nat → Nat) (L : List Nat) (a : Nat) : ∀ s : Nat × Nat, foldE err (L ++ [a]) s = if err a ≠ 0 ∧ ((foldE err L s).1 = 0 ∨ a < (foldE err L s).2) then (err a, a) else foldE err L s := by
  induction L with
  | nil => intro s; rfl
  | cons b L ih => intro s; rw [List.cons_append, foldE, ih]; rfl
/-- What the first loop holds behind k addresses: the error, and where. -/
def badK (err : Nat → Nat) (L : List Nat) (k : Nat) : Nat × Nat := foldE err (L.take k) (0, 0)
theorem badK_zero (err : Nat → Nat) (L : List Nat) : badK err L 0 = (0, 0) := rfl
theorem badK_end (err : Nat → Nat) (L : List Nat) : (badK err L L.length).1 = errL err L := by unfold badK errL; rw [List.take_length]
theorem badK_good {err : Nat → Nat} {L : List Nat} {k a : Nat} (h : L[k]? = some a) (h0 : err a = 0) : badK err L (k + 1) = badK err L k := by
  unfold badK
  rw [List.take_add_one, h, Option.toList_some, foldE_snoc, if_neg (fun e => e.1 h0)]
theorem badK_new {err : Nat → Nat} {L : List Nat} {k a : Nat} (h : L[k]? = some a) (h0 : err a ≠ 0) (h1 : (badK err L k).1 = 0 ∨ a < (badK err L k).2) : badK err L (k + 1) = (err a, a) := by
  unfold badK at *
  rw [List.take_add_one, h, Option.toList_some, foldE_snoc, if_pos ⟨h0, h1⟩]
theorem badK_old {err : Nat → Nat} {L : List Nat} {k a : Nat} (h : L[k]? = some a) (h1 : ¬ ((badK err L k).1 = 0 ∨ a < (badK err L k).2)) : badK err L (k + 1) = badK err L k := by
  unfold badK at *
  rw [List.take_add_one, h, Option.toList_some, foldE_snoc, if_neg (fun e => h1 e.2)]

/-- The blocks of the first w words, by their addresses. -/
def blkA (T : Tx) (seeds L : List Nat) (w : Nat) : List (Nat × Nat) := adrL T (blks T seeds L w)
theorem blkA_zero (T : Tx) (seeds L : List Nat) : blkA T seeds L 0 = [] := rfl
theorem blkA_no {T : Tx} {seeds L : List Nat} {w : Nat} (h : L.contains (T.adr w) = false) : blkA T seeds L (w + 1) = blkA T seeds L w := by
  unfold blkA; rw [blks, if_neg (by rw [h]; simp)]
theorem blkA_new {T : Tx} {seeds L : List Nat} {w : Nat} (h : L.contains (T.adr w) = true) (hb : begins T seeds L w = true) : blkA T seeds L (w + 1) = blkA T seeds L w ++ [(T.adr w, 0 + 1)] := by
  unfold blkA; rw [blks, if_pos h, if_pos hb]; simp [adrL]
theorem blkA_more {T : Tx} {seeds L : List Nat} {w : Nat} (h : L.contains (T.adr w) = true) (hb : begins T seeds L w = false) : ∃ l0 x y, blkA T seeds L w = l0 ++ [(x, y)] ∧ blkA T seeds L (w + 1) = l0 ++ [(x, y + 1)] := by
  have hw0 : w ≠ 0 := fun e => by unfold begins at hb; subst e; simp at hb
  have hprev : T.adr (w - 1) ∈ L := by
    unfold begins at hb
    simp only [Bool.or_eq_false_iff, Bool.not_eq_false', List.contains_iff_mem] at hb
    exact hb.1.1.2
  obtain ⟨b0, hb0, _⟩ := (tiles T seeds L w).1.all (w - 1) (by omega) hprev
  obtain ⟨l, b, e⟩ : ∃ l b, blks T seeds L w = l ++ [b] := by
    have hne : blks T seeds L w ≠ [] := fun e => by rw [e] at hb0; simp at hb0
    exact ⟨_, _, (List.dropLast_concat_getLast hne).symm⟩
  refine ⟨adrL T l, T.adr b.1, b.2, ?_, ?_⟩
  · unfold blkA; rw [e]; simp [adrL]
  · unfold blkA; rw [blks, if_pos h, if_neg (by rw [hb]; simp), e, bump_snoc]; simp [adrL]
theorem blks_few (T : Tx) (seeds L : List Nat) (w : Nat) : (blks T seeds L w).length ≤ w := by
  induction w with
  | zero => exact Nat.zero_le _
  | succ w ih =>
    rw [blks]
    split
    · split
      · rw [List.length_append]; simp; exact ih
      · rw [bump_len]; omega
    · omega
theorem blkA_few (T : Tx) (seeds L : List Nat) (w : Nat) : (blkA T seeds L w).length ≤ w ∧ ∀ b ∈ blkA T seeds L w, b.2 ≤ w := by
  refine ⟨by unfold blkA adrL; rw [List.length_map]; exact blks_few T seeds L w, fun b hb => ?_⟩
  unfold blkA adrL at hb
  obtain ⟨c, hc, rfl⟩ := List.mem_map.1 hb
  have := (tiles T seeds L w).1.pos c hc
  show c.2 ≤ w
  omega
theorem begins_hold (T : Tx) (seeds L : List Nat) (w : Nat) : begins T seeds L (w + 1) = (!L.contains (T.adr w) || (T.ends (T.adr w) || leader T seeds L (T.adr (w + 1)))) := by
  unfold begins
  rw [Nat.add_sub_cancel, decide_eq_false (Nat.succ_ne_zero w), Bool.false_or, Bool.or_assoc]
theorem begins_first (T : Tx) (seeds L : List Nat) : begins T seeds L 0 = true := by
  unfold begins; rfl
end Bl
end Go.Proofs.Ytcffpmicencfpab
namespace Go.Proofs.Ytcffpmicencfpab
open Go.RowKit Go.Lib Go.Sort Ip Bl Pm
set_option linter.unusedSimpArgs false
set_option linter.unusedVariables false

theorem cellsB_set0 (l : List (Nat × Nat)) (b : Nat × Nat) : (cellsB (l ++ [b])).set (l.length * 2) (.int .u32 (b.1 : Int)) = cellsB (l ++ [b]) := by
  rw [cellsB_app, List.set_append_right _ _ (by rw [cellsB_len]; omega), cellsB_len, Nat.sub_self]
  rfl
theorem owns_emptyB (W : World) (B : Nat) (hB : B ≤ W.heap.size) : (W.alloc (.cells #[] 37)).ownsRow B 37 2 (.slice (some ⟨W.heap.size, 0, none⟩) 0 0) 0 [] :=
  ⟨rfl, .inr ⟨W.heap.size, 0, #[], rfl, hB, heap_alloc_new W _, Nat.le_refl _, by decide, rfl, rfl⟩⟩
/-- Memory of the second loop: the image's box, the reached addresses, the blocks. -/
structure RkF (w : World) (i : Img) (u : Value) (L : List Nat) (v : Value) (lk : List (Nat × Nat)) (vo : Value) (W : World) : Prop where
  rr : Rr w i u L v W
  row : W.ownsRow w.heap.size 37 2 vo lk.length (cellsB lk)
variable {w : World} {i : Img} {u : Value} {L : List Nat} {v : Value} {lk : List (Nat × Nat)} {vo : Value} {W W' : World}
theorem RkF.ext (h : RkF w i u L v lk vo W) (hb : Below W.heap.size W W') : RkF w i u L v lk vo W' :=
  ⟨h.rr.ext hb, h.row.kept (grown_of_below hb) (by cases vo.ownBlock <;> simp)⟩
theorem RkF.app (h : RkF w i u L v lk vo W) {o : Obj} {vo' : Value} {a : Nat} (hown : W'.ownsRow w.heap.size 37 2 vo' (lk.length + 1) (cellsB lk ++ [.int .u32 (a : Int), .int .i64 0])) (hg : (W.alloc o).grownBy W' vo.ownBlock) : RkF w i u L v (lk ++ [(a, 0)]) vo' W' := by
  have ha := h.ext ((Below.refl _ W).alloc (Nat.le_refl _) o)
  have hbig := h.rr.big
  refine ⟨⟨(hg.block _ (by rw [World.size_alloc]; omega) (row_box h.row h.rr.ib (by decide))).trans ha.rr.ib, ha.rr.row.kept hg (rows_apart ha.rr.row ha.row (by decide)), ha.rr.low.grown hg (by rw [World.size_alloc]; omega) (fun k e => (h.row.lt k e).1), Nat.le_trans ha.rr.big hg.size⟩, ?_⟩
  rw [cellsB_app]
  simpa [cellsB] using hown
theorem RkF.put {g n c : Nat} {lk' : List (Nat × Nat)} (h : RkF w i u L v lk (.slice (some ⟨g, 0, none⟩) n c) W) (hn : lk.length = n) (hn' : lk'.length = n) (j : Nat) (x : Value) (hs : (cellsB lk).set j x = cellsB lk') : RkF w i u L v lk' (.slice (some ⟨g, 0, none⟩) n c) (W.setCell ⟨g, j, none⟩ x) := by
  have hrow := h.row
  rw [hn] at hrow
  obtain ⟨h1, h2⟩ := hrow.stored j x
  rw [hs] at h1
  exact ⟨⟨(Below.heap_setCell _ _ _ _ (fun e => row_box h.row h.rr.ib (by decide) (by rw [e]; rfl))).trans h.rr.ib, h.rr.row.kept h2 (rows_apart h.rr.row h.row (by decide)), h.rr.low.grown h2 h.rr.low.size (fun k e => by cases e; exact (h.row.lt _ rfl).1), by have := h.rr.big; simpa using this⟩, by rw [hn']; exact h1⟩
theorem RkF.bump {l0 : List (Nat × Nat)} {x y g n c : Nat} (h : RkF w i u L v (l0 ++ [(x, y)]) (.slice (some ⟨g, 0, none⟩) (n + 1) c) W) (hn : l0.length = n) :
    RkF w i u L v (l0 ++ [(x, y + 1)]) (.slice (some ⟨g, 0, none⟩) (n + 1) c) ((W.setCell ⟨g, n * 2, none⟩ (.int .u32 (x : Int))).setCell ⟨g, n * 2 + 1, none⟩ (.int .i64 ((y : Int) + 1))) := by
  have e : ((y : Int) + 1) = ((y + 1 : Nat) : Int) := by omega
  have h1 := h.put (lk' := l0 ++ [(x, y)]) (by rw [List.length_append, hn]; rfl) (by rw [List.length_append, hn]; rfl) (n * 2) (.int .u32 (x : Int)) (by rw [← hn]; exact cellsB_set0 l0 (x, y))
  rw [e]
  exact h1.put (by rw [List.length_append, hn]; rfl) (by rw [List.length_append, hn]; rfl) (n * 2 + 1) _ (by rw [← hn]; exact cellsB_set l0 (x, y) (y + 1))
theorem RkF.last {l0 : List (Nat × Nat)} {x y g n c : Nat} (h : RkF w i u L v (l0 ++ [(x, y)]) (.slice (some ⟨g, 0, none⟩) (n + 1) c) W) (hn : l0.length = n) :
    (W.cell? ⟨g, n * 2, none⟩ = some (.int .u32 (x : Int)) ∧ W.cell? ⟨g, n * 2 + 1, none⟩ = some (.int .i64 (y : Int))) ∧ (W.frozen? ⟨g, n * 2, none⟩ = false ∧ W.frozen? ⟨g, n * 2 + 1, none⟩ = false) := by
  have hl : (l0 ++ [(x, y)]).length = n + 1 := by rw [List.length_append, hn]; rfl
  have hrow := h.row
  rw [hl] at hrow
  have hc := cellsB_at (l0 ++ [(x, y)]) n (x, y) (by rw [List.getElem?_append_right (by omega), hn]; simp)
  exact ⟨⟨by rw [hrow.cellAt _ (by omega)]; exact hc.1, by rw [hrow.cellAt _ (by omega)]; exact hc.2⟩, hrow.frozenAt _, hrow.frozenAt _⟩
theorem RkF.set (h : RkF w i u L v lk vo W) {g : Nat} {cs : Array Value} {t : TypeId} {fr : Nat × Nat} (hg : W.heap[g]? = some (.cells cs t fr)) (hlo : w.heap.size + 1 ≤ g) (ht : t ≠ 24) (ht2 : t ≠ 37) (k : Nat) (x : Value) : RkF w i u L v lk vo (W.setCell ⟨g, k, none⟩ x) :=
  ⟨h.rr.set hg hlo ht k x, h.row.kept (grown_setCell W ⟨g, k, none⟩ x) (.inr (fun e => row_box h.row hg ht2 e.symm))⟩
/-- .. and an instruction's box. -/
structure RoF (w : World) (i : Img) (u : Value) (L : List Nat) (v : Value) (lk : List (Nat × Nat)) (vo : Value) (gx : Nat) (X : Ins) (W : World) : Prop where
  rk : RkF w i u L v lk vo W
  xb : W.heap[gx]? = some (.cells (insC X) 23 (0, 0))
theorem RoF.five (h : RkF w i u L v lk vo W) {g : Nat} {z0 z1 z2 z3 z4 : Value} (hg : W.heap[g]? = some (.cells #[z0, z1, z2, z3, z4] 23 (0, 0))) (hlo : w.heap.size + 1 ≤ g) (X : Ins) :
    RoF w i u L v lk vo g X (((((W.setCell ⟨g, 0, none⟩ (.int .i64 X.op)).setCell ⟨g, 1, none⟩ (.int .i64 X.rd)).setCell ⟨g, 2, none⟩ (.int .i64 X.rs1)).setCell ⟨g, 3, none⟩ (.int .i64 X.rs2)).setCell ⟨g, 4, none⟩ (.int .i64 X.imm)) := by
  have g1 := heap_setCell_same _ g 0 _ _ (.int .i64 X.op) hg
  have g2 := heap_setCell_same _ g 1 _ _ (.int .i64 X.rd) g1
  have g3 := heap_setCell_same _ g 2 _ _ (.int .i64 X.rs1) g2
  have g4 := heap_setCell_same _ g 3 _ _ (.int .i64 X.rs2) g3
  have g5 := heap_setCell_same _ g 4 _ _ (.int .i64 X.imm) g4
  exact ⟨((((h.set hg hlo (by decide) (by decide) 0 _).set g1 hlo (by decide) (by decide) 1 _).set g2 hlo (by decide) (by decide) 2 _).set g3 hlo (by decide) (by decide) 3 _).set g4 hlo (by decide) (by decide) 4 _, by rw [g5]; rfl⟩
theorem RoF.new (h : RkF w i u L v lk vo W) (X : Ins) : RoF w i u L v lk vo W.heap.size X (W.alloc (.cells (insC X) 23)) := ⟨h.ext ((Below.refl _ _).alloc (Nat.le_refl _) _), heap_alloc_new _ _⟩
end Go.Proofs.Ytcffpmicencfpab
