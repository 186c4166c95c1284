/-
  Contract of the document's At (layer 8).
  What the document's list of reached addresses holds while it grows; memory beside it.
  The walk of the document's Reached.
-/

import Derived.Test.YtcffpmicencfpabZC6
import Derived.Test.YtcffpmicencfpabZC7
import Derived.Test.YtcffpmicencfpabZC9
namespace Go.Proofs.Ytcffpmicencfpab
open Go.RowKit Go.Lib Ip Bl
set_option linter.unusedSimpArgs false
set_option linter.unusedVariables false

end Go.Proofs.Ytcffpmicencfpab
namespace Go.Proofs.Ytcffpmicencfpab
open Go.RowKit Go.Lib Go.Sort Ip Bl Pm
set_option linter.unusedSimpArgs false
set_option linter.unusedVariables false

/-- The list while what stands behind its k-th address is laid: j of these are in it. -/
structure Gro (T : Tx) (seeds L : List Nat) (k : Nat) (A : List Nat) (j : Nat) : Prop where
  gr : Grows T seeds L k
  part : ∀ a ∈ A.take j, a ∈ L
theorem grow_one {T : Tx} {seeds L : List Nat} {k : Nat} (h : Grows T seeds L k) (hk : k ≤ L.length) {x : Nat} (hx : Bl.Reach T seeds x) (hn : x ∉ L) : Grows T seeds (L ++ [x]) k :=
  ⟨fun a ha => List.mem_append_left _ (h.seed a ha), fun j b hj hb h0 a ha => by
    rw [List.getElem?_append_left (by omega)] at hb
    exact List.mem_append_left _ (h.done j b hj hb h0 a ha), fun a ha => by
    rcases List.mem_append.1 ha with ha | ha
    · exact h.only a ha
    · simp at ha; subst ha; exact hx, List.nodup_append.2 ⟨h.once, by simp, fun a ha b hb => by simp at hb; subst hb; exact fun e => hn (e ▸ ha)⟩⟩
theorem Gro.have_ {T : Tx} {seeds L : List Nat} {k : Nat} {A : List Nat} {j x : Nat} (h : Gro T seeds L k A j) (hx : A[j]? = some x) (hm : x ∈ L) : Gro T seeds L k A (j + 1) :=
  ⟨h.gr, fun a ha => by
    rw [List.take_add_one, hx] at ha
    rcases List.mem_append.1 ha with ha | ha
    · exact h.part a ha
    · simp at ha; subst ha; exact hm⟩
theorem Gro.add {T : Tx} {seeds L : List Nat} {k : Nat} {A : List Nat} {j x : Nat} (h : Gro T seeds L k A j) (hk : k ≤ L.length) (hx : A[j]? = some x) (hr : Bl.Reach T seeds x) (hn : x ∉ L) : Gro T seeds (L ++ [x]) k A (j + 1) :=
  ⟨grow_one h.gr hk hr hn, fun a ha => by
    rw [List.take_add_one, hx] at ha
    rcases List.mem_append.1 ha with ha | ha
    · exact List.mem_append_left _ (h.part a ha)
    · simp at ha; subst ha; simp⟩
theorem Gro.end_ {T : Tx} {seeds L : List Nat} {k b : Nat} (h : Gro T seeds L k (T.suc b) (T.suc b).length) (hb : L[k]? = some b) : Grows T seeds L (k + 1) :=
  ⟨h.gr.seed, fun j c hj hc h0 a ha => by
    by_cases e : j = k
    · subst e
      rw [hb] at hc; injection hc with hc; subst hc
      exact h.part a (by rw [List.take_length]; exact ha)
    · exact h.gr.done j c (by omega) hc h0 a ha, h.gr.only, h.gr.once⟩
theorem grow_err {T : Tx} {seeds L : List Nat} {k b : Nat} (h : Grows T seeds L k) (hb : L[k]? = some b) (h0 : T.err b ≠ 0) : Grows T seeds L (k + 1) :=
  ⟨h.seed, fun j c hj hc he a ha => by
    by_cases e : j = k
    · subst e
      rw [hb] at hc; injection hc with hc; subst hc
      exact absurd he h0
    · exact h.done j c (by omega) hc he a ha, h.only, h.once⟩
/-- The first loop: the entries, each once. -/
structure Ent (i : Img) (es L : List Nat) (k : Nat) : Prop where
  mem : ∀ a, a ∈ L ↔ a = i.entry.toNat ∨ a ∈ es.take k
  once : L.Nodup
theorem ent_start (i : Img) (es : List Nat) : Ent i es [i.entry.toNat] 0 := ⟨fun a => by simp, by simp⟩
theorem Ent.have_ {i : Img} {es L : List Nat} {k x : Nat} (h : Ent i es L k) (hx : es[k]? = some x) (hm : x ∈ L) : Ent i es L (k + 1) :=
  ⟨fun a => by
    rw [List.take_add_one, hx, h.mem a]
    simp only [Option.toList_some, List.mem_append, List.mem_singleton]
    constructor
    · exact fun h => h.elim .inl (fun h => .inr (.inl h))
    · rintro (h1 | h1 | rfl)
      · exact .inl h1
      · exact .inr h1
      · exact (h.mem _).1 hm, h.once⟩
theorem Ent.add {i : Img} {es L : List Nat} {k x : Nat} (h : Ent i es L k) (hx : es[k]? = some x) (hn : x ∉ L) : Ent i es (L ++ [x]) (k + 1) :=
  ⟨fun a => by
    rw [List.take_add_one, hx, List.mem_append, h.mem a]
    simp only [Option.toList_some, List.mem_append, List.mem_singleton]
    constructor
    · rintro ((h1 | h1) | h1)
      · exact .inl h1
      · exact .inr (.inl h1)
      · exact .inr (.inr h1)
    · rintro (h1 | h1 | h1)
      · exact .inl (.inl h1)
      · exact .inl (.inr h1)
      · exact .inr h1, List.nodup_append.2 ⟨h.once, by simp, fun a ha b hb => by simp at hb; subst hb; exact fun e => hn (e ▸ ha)⟩⟩
theorem Ent.len {i : Img} {es L : List Nat} {k : Nat} (h : Ent i es L k) : L.length ≤ es.length + 1 := by
  have := nodup_len (m := i.entry.toNat :: es) h.once (fun a ha => by
    rcases (h.mem a).1 ha with rfl | h1
    · exact List.mem_cons_self
    · exact List.mem_cons_of_mem _ (List.mem_of_mem_take h1))
  simpa using this
theorem Ent.grows {i : Img} {es L : List Nat} {T : Tx} (h : Ent i es L es.length) : Grows T (seedsI i es) L 0 := by
  have hm : ∀ a, a ∈ L ↔ a ∈ seedsI i es := fun a => by rw [h.mem, List.take_length]; unfold seedsI; rw [List.mem_cons]
  exact ⟨fun a ha => (hm a).2 ha, fun j b hj => by omega, fun a ha => reach_seed ((hm a).1 ha), h.once⟩
/-- Memory: the image's box, and the list. -/
structure Rr (w : World) (i : Img) (u : Value) (L : List Nat) (v : Value) (W : World) : Prop where
  ib : W.heap[w.heap.size]? = some (.cells (imgC i u) 32 (0, 0))
  row : W.ownsRow (w.heap.size + 1) 24 1 v L.length (L.map wordV)
  low : Below w.heap.size w W
  big : w.heap.size + 1 ≤ W.heap.size
variable {w : World} {i : Img} {u : Value} {L : List Nat} {v : Value} {W W' : World}
theorem Rr.ext (h : Rr w i u L v W) (hb : Below W.heap.size W W') : Rr w i u L v W' :=
  ⟨keptN hb h.ib, h.row.kept (grown_of_below hb) (by cases v.ownBlock <;> simp), h.low.trans (hb.mono h.low.size), Nat.le_trans h.big hb.size⟩
theorem Rr.app (h : Rr w i u L v W) {o : Obj} {v' : Value} {a : Nat} (hown : W'.ownsRow (w.heap.size + 1) 24 1 v' (L.length + 1) (L.map wordV ++ [.int .u32 (a : Int)])) (hg : (W.alloc o).grownBy W' v.ownBlock) : Rr w i u (L ++ [a]) v' W' := by
  have ha := h.ext ((Below.refl _ W).alloc (Nat.le_refl _) o)
  exact ⟨(hg.block _ (by rw [World.size_alloc]; have := h.big; omega) (fun e => by have := (h.row.lt _ e.symm).1; omega)).trans ha.ib, by simpa [wordV] using hown, ha.low.grown hg (by rw [World.size_alloc]; have := h.big; omega) (fun k e => by have := (h.row.lt k e).1; omega), Nat.le_trans ha.big hg.size⟩
theorem Rr.slw (h : Rr w i u L v W) : SlW W v L := slw_of_owns h.row
/-- .. with an instruction's box, and a list of its own besides. -/
structure Rs (w : World) (i : Img) (u : Value) (L : List Nat) (v : Value) (gx : Nat) (X : Ins) (W : World) : Prop where
  rr : Rr w i u L v W
  xb : W.heap[gx]? = some (.cells (insC X) 23 (0, 0))
end Go.Proofs.Ytcffpmicencfpab
namespace Go.Proofs.Ytcffpmicencfpab
open Go.RowKit Go.Lib Go.Sort Ip Bl Pm
set_option linter.unusedSimpArgs false
set_option linter.unusedVariables false

variable {w : World} {i : Img} {u : Value} {L : List Nat} {v v' va : Value} {n : Nat} {xs : List Value} {W W' : World}
theorem own_zero {W : World} {B : Nat} {t : TypeId} {k : Nat} {v : Value} {n : Nat} {xs : List Value} (h : W.ownsRow B t k v n xs) : W.ownsRow 0 t k v n xs := by
  refine ⟨h.1, ?_⟩
  rcases h.2 with h0 | ⟨g, cap, cur, h1, h2, h3⟩
  · exact .inl h0
  · exact .inr ⟨g, cap, cur, h1, Nat.zero_le _, h3⟩
/-- A list of the call's own, apart from that of the reached ones. -/
structure Rt (v va : Value) (n : Nat) (xs : List Value) (W : World) : Prop where
  own : W.ownsRow 0 24 1 va n xs
  apart : ∀ k, va.ownBlock = some k → v.ownBlock ≠ some k ∧ k < W.heap.size
theorem Rt.new (h : Rr w i u L v W) (hb : Below W.heap.size W W') (hA : W'.ownsRow W.heap.size 24 1 va n xs) : Rt v va n xs W' := by
  refine ⟨own_zero hA, fun k hk => ?_⟩
  obtain ⟨e1, e2⟩ := hA.lt k hk
  exact ⟨fun e => by have := (h.row.lt k e).2; omega, e2⟩
theorem Rt.ext (h : Rt v va n xs W) (hb : Below W.heap.size W W') : Rt v va n xs W' :=
  ⟨h.own.kept (grown_of_below hb) (by cases va.ownBlock <;> simp), fun k hk => ⟨(h.apart k hk).1, Nat.lt_of_lt_of_le (h.apart k hk).2 hb.size⟩⟩
theorem Rt.app (h : Rt v va n xs W) {o : Obj} (hg : (W.alloc o).grownBy W' v.ownBlock) (hat : v'.ownBlock = v.ownBlock ∨ v'.ownBlock = some (W.alloc o).heap.size) : Rt v' va n xs W' := by
  have hsz : (W.alloc o).heap.size = W.heap.size + 1 := World.size_alloc _ _
  refine ⟨(h.own.alloc o).kept hg ?_, fun k hk => ?_⟩
  · cases e : va.ownBlock with
    | none => exact .inl rfl
    | some k => exact .inr (fun e1 => (h.apart k e).1 e1.symm)
  · obtain ⟨e1, e2⟩ := h.apart k hk
    refine ⟨fun e => ?_, by have := hg.size; omega⟩
    rcases hat with e3 | e3
    · exact e1 (e3 ▸ e)
    · rw [e3] at e; injection e with e; omega
theorem own_low3 {W : World} {B : Nat} {t : TypeId} {k : Nat} {v : Value} {n : Nat} {xs : List Value} (h : W.ownsRow (B + 1) t k v n xs) : W.ownsRow B t k v n xs := by
  refine ⟨h.1, ?_⟩
  rcases h.2 with h0 | ⟨g, cap, cur, h1, h2, h3⟩
  · exact .inl h0
  · exact .inr ⟨g, cap, cur, h1, by omega, h3⟩
theorem five_facts {W : World} {b : Nat} {a0 a1 a2 a3 a4 : Value} {t : TypeId} (h : W.heap[b]? = some (.cells #[a0, a1, a2, a3, a4] t (0, 0))) :
    (W.cell? ⟨b, 0, none⟩ = some a0 ∧ W.cell? ⟨b, 1, none⟩ = some a1 ∧ W.cell? ⟨b, 2, none⟩ = some a2 ∧ W.cell? ⟨b, 3, none⟩ = some a3 ∧ W.cell? ⟨b, 4, none⟩ = some a4) ∧
    (W.frozen? ⟨b, 0, none⟩ = false ∧ W.frozen? ⟨b, 1, none⟩ = false ∧ W.frozen? ⟨b, 2, none⟩ = false ∧ W.frozen? ⟨b, 3, none⟩ = false ∧ W.frozen? ⟨b, 4, none⟩ = false) := by
  simp [World.cell?, World.frozen?, h]
theorem Rs.new (h : Rr w i u L v W) (X : Ins) : Rs w i u L v W.heap.size X (W.alloc (.cells (insC X) 23)) := ⟨h.ext ((Below.refl _ _).alloc (Nat.le_refl _) _), heap_alloc_new _ _⟩
theorem Rr.set (h : Rr w i u L v W) {g : Nat} {cs : Array Value} {t : TypeId} {fr : Nat × Nat} (hg : W.heap[g]? = some (.cells cs t fr)) (hlo : w.heap.size + 1 ≤ g) (ht : t ≠ 24) (k : Nat) (x : Value) : Rr w i u L v (W.setCell ⟨g, k, none⟩ x) := by
  have hs := grown_setCell W ⟨g, k, none⟩ x
  exact ⟨(Below.heap_setCell _ _ _ _ (by show w.heap.size ≠ g; omega)).trans h.ib, h.row.kept hs (.inr (fun e => row_box h.row hg ht e.symm)), h.low.setCell (by show w.heap.size ≤ g; omega) _, by have := h.big; simpa using this⟩
theorem Rs.five (h : Rr w i u L v W) {g : Nat} {z0 z1 z2 z3 z4 : Value} (hg : W.heap[g]? = some (.cells #[z0, z1, z2, z3, z4] 23 (0, 0))) (hlo : w.heap.size + 1 ≤ g) (X : Ins) :
    Rs w i u L v g X (((((W.setCell ⟨g, 0, none⟩ (.int .i64 X.op)).setCell ⟨g, 1, none⟩ (.int .i64 X.rd)).setCell ⟨g, 2, none⟩ (.int .i64 X.rs1)).setCell ⟨g, 3, none⟩ (.int .i64 X.rs2)).setCell ⟨g, 4, none⟩ (.int .i64 X.imm)) := by
  have g1 := heap_setCell_same _ g 0 _ _ (.int .i64 X.op) hg
  have g2 := heap_setCell_same _ g 1 _ _ (.int .i64 X.rd) g1
  have g3 := heap_setCell_same _ g 2 _ _ (.int .i64 X.rs1) g2
  have g4 := heap_setCell_same _ g 3 _ _ (.int .i64 X.rs2) g3
  have g5 := heap_setCell_same _ g 4 _ _ (.int .i64 X.imm) g4
  exact ⟨((((h.set hg hlo (by decide) 0 _).set g1 hlo (by decide) 1 _).set g2 hlo (by decide) 2 _).set g3 hlo (by decide) 3 _).set g4 hlo (by decide) 4 _, by rw [g5]; rfl⟩
end Go.Proofs.Ytcffpmicencfpab
