/-
  Contract of the document's At (layer 8).
  What the document's list of reached addresses holds while it grows; memory beside it.
  The walk of the document's Reached.
-/

import Derived.Test.YtcffpmicencfpabGreatZC6
import Derived.Test.YtcffpmicencfpabGreatZC7
import Derived.Test.YtcffpmicencfpabGreatZC9
namespace Go.Proofs.YtcffpmicencfpabGreat
open Go.RowKit Go.Lib Ip Bl
set_option linter.unusedSimpArgs false
set_option linter.unusedVariables false

theorem rdecode_w (x : BitVec 32) (y : Ins) (h : insW x = y) (h0 : errW x = 0) (w : World) : Calls Tryz.prog 22 #[.int .u32 (x.toNat : Int)] w fun e w' => e = .returned (.tuple #[.agg #[.int .i64 y.op, .int .i64 y.rd, .int .i64 y.rs1, .int .i64 y.rs2, .int .i64 y.imm], .int .i64 0]) ∧ Below w.heap.size w w' := by
  subst h
  cases hk : kindOf x with
  | some k =>
    obtain ⟨hk1, hk2⟩ := kind_some hk
    rw [(insW_some hk).2]
    exact rdecode_kind x k hk1 hk2 w
  | none => rw [(insW_none hk).1] at h0; cases h0
set_option maxHeartbeats 1000000 in
theorem rat8_any (i : Img) (v : Value) (a : Nat) (ha : a < 4294967296) (hi : i.ok) (w : World) (hS : SlW w v i.words) :
    Calls Tryz.prog 9 #[imgV i v, .int .u32 (a : Int)] w fun e w' => e = .returned (.tuple #[insV (insA i a), .int .i64 (errA i a : Int)]) ∧ Below w.heap.size w w' := by
  have hat := rat7_any i v (adrB a) hi ((w.alloc (.cells #[.int .u32 (i.base.toNat : Int), .int .u32 (i.entry.toNat : Int), v, .int .i64 (i.seg : Int)] 26)).alloc (.cells #[.int .i64 0, .int .i64 0, .int .i64 0, .int .i64 0, .int .i64 0] 38)) ((hS.alloc _).alloc _)
  rw [adrB_nat ha] at hat
  have hb0 : Below w.heap.size w ((w.alloc (.cells #[.int .u32 (i.base.toNat : Int), .int .u32 (i.entry.toNat : Int), v, .int .i64 (i.seg : Int)] 26)).alloc (.cells #[.int .i64 0, .int .i64 0, .int .i64 0, .int .i64 0, .int .i64 0] 38)) := ((Below.refl _ w).alloc (Nat.le_refl _) _).alloc (by simp) _
  have hh := hitA_of (i := i) ha
  have HH' := hideE hh
  obtain ⟨hb, hB⟩ : ∃ b, atB i (adrB a) = b := ⟨_, rfl⟩
  rw [hB] at hat hh
  have HI : Hid (insA i a = if hb = true then insW (wordA i a) else noIns) := by show _ = _; unfold insA; rw [hh]
  have HE : Hid (errA i a = if hb = true then errW (wordA i a) else 81) := by show _ = _; unfold errA; rw [hh]
  have hwl : atW i (adrB a) < 4294967296 := by
    cases hb with
    | false => rw [at_no hB]; decide
    | true =>
      obtain ⟨n, hn, e, _⟩ := at_yes hB
      rw [e]; exact hi.2.2.2 n (List.mem_of_getElem? hn)
  have hW : wordA i a = adrB (atW i (adrB a)) := rfl
  have hWn := adrB_nat hwl
  rw [← hW] at hWn
  have HW := hideE hWn
  rw [← hWn] at hat
  obtain ⟨p, c, rfl, _⟩ := hS.len
  clear hS hB hh hwl hW hWn
  simp only [imgV] at hat ⊢
  go_enter Tryz.func9, Tryz.ntmps9
  go_wp2_with fail
  refine hat.mono ?_
  clear hat
  rintro e w1 ⟨rfl, hb1⟩
  have hrs : w1.heap[w.heap.size + 1]? = some (.cells Z5 38 (0, 0)) := by
    refine keptN hb1 ?_
    have := heap_alloc_new (w.alloc (.cells #[.int .u32 (i.base.toNat : Int), .int .u32 (i.entry.toNat : Int), .slice p i.words.length c, .int .i64 (i.seg : Int)] 26)) (.cells Z5 38)
    rw [World.size_alloc] at this
    exact this
  have HB1 := hideE (hb0.trans (hb1.mono hb0.size))
  clear hb1 hb0
  cases hb with
  | false =>
    go_wp2_with (refine wpList_store_row rfl 38 _ _ rfl (w.heap.size + 1) _ rfl rfl _ Z5 hrs (by kernel_rfl) rfl (by kernel_rfl) ?_)
    refine bodyPost_ret (v := .tuple #[.agg (Z5), .int .i64 81]) (results_row_tmp (p := 4) (u := 5) (by kernel_rfl) _ _ (w.heap.size + 1) _ _ _ _ rfl (setRow_heap _ _ _ _ _ _ hrs) Tryz.underlying38 rfl (by kernel_rfl)) rfl ⟨?_, below_setRowE HB1.out (Nat.le_succ _) _⟩
    rw [HI.out, HE.out]; rfl
  | true =>
    by_cases h0 : errW (wordA i a) = 0
    · obtain ⟨y, hy⟩ : ∃ y, insW (wordA i a) = y := ⟨_, rfl⟩
      have HD := hideE (rdecode_w (wordA i a) y hy h0)
      have E1 := hideE h0
      have E2 := hideE hy
      clear hy h0
      obtain ⟨op, rd, rs1, rs2, imm⟩ := y
      go_wp2_with fail
      refine (HD.out _).mono ?_
      rintro e w2 ⟨rfl, hb2⟩
      have hr2 : ∀ o, (w2.alloc o).heap[w.heap.size + 1]? = some (.cells Z5 38 (0, 0)) := fun o => keptN ((Below.refl _ w2).alloc (Nat.le_refl _) o) (keptN hb2 hrs)
      have HB2 := hideE (HB1.out.trans (hb2.mono HB1.out.size))
      clear hrs hb2
      go_wp2_with (refine wpList_store_row rfl 38 _ _ rfl (w.heap.size + 1) _ rfl rfl _ Z5 (hr2 _) (by kernel_rfl) rfl (by kernel_rfl) ?_)
      refine bodyPost_ret (v := .tuple #[.agg (insC ⟨op, rd, rs1, rs2, imm⟩), .int .i64 0]) (results_row_tmp (p := 4) (u := 5) (by kernel_rfl) _ _ (w.heap.size + 1) _ _ _ _ rfl (by exact setRow_heap _ _ _ _ _ _ (hr2 _)) Tryz.underlying38 rfl (by kernel_rfl)) rfl ⟨?_, below_setRowE (HB2.out.alloc HB2.out.size _) (Nat.le_succ _) _⟩
      rw [HI.out, HE.out, if_pos trivial, if_pos trivial, E1.out, E2.out]; rfl
    · have hk2 := errW_none h0
      obtain ⟨e1, e2⟩ := errW_of h0
      have E1 := hideE e1
      have E2 := hideE e2
      clear h0 e1 e2
      go_wp2_with fail
      refine (rdecode_none (wordA i a) hk2 _).mono ?_
      rintro e w2 ⟨rfl, hb2⟩
      have hr2 : ∀ o, (w2.alloc o).heap[w.heap.size + 1]? = some (.cells Z5 38 (0, 0)) := fun o => keptN ((Below.refl _ w2).alloc (Nat.le_refl _) o) (keptN hb2 hrs)
      have HB2 := hideE (HB1.out.trans (hb2.mono HB1.out.size))
      clear hrs hb2
      go_wp2_with (refine wpList_store_row rfl 38 _ _ rfl (w.heap.size + 1) _ rfl rfl _ Z5 (hr2 _) (by kernel_rfl) rfl (by kernel_rfl) ?_)
      refine bodyPost_ret (v := .tuple #[.agg (Z5), .int .i64 80]) (results_row_tmp (p := 4) (u := 5) (by kernel_rfl) _ _ (w.heap.size + 1) _ _ _ _ rfl (by exact setRow_heap _ _ _ _ _ _ (hr2 _)) Tryz.underlying38 rfl (by kernel_rfl)) rfl ⟨?_, below_setRowE (HB2.out.alloc HB2.out.size _) (Nat.le_succ _) _⟩
      rw [HI.out, HE.out, if_pos trivial, if_pos trivial, E1.out, E2.out]; rfl
theorem rat8_at (i : Img) (v : Value) (a : Nat) (ha : a < 4294967296) (hi : i.ok) (X : Ins) (hX : insA i a = X) (E : Nat) (hE : errA i a = E) (w : World) (hS : SlW w v i.words) :
    Calls Tryz.prog 9 #[imgV i v, .int .u32 (a : Int)] w fun e w' => e = .returned (.tuple #[.agg (insC X), .int .i64 (E : Int)]) ∧ Below w.heap.size w w' := by
  subst hX hE
  exact rat8_any i v a ha hi w hS
end Go.Proofs.YtcffpmicencfpabGreat
namespace Go.Proofs.YtcffpmicencfpabGreat
open Go.RowKit Go.Lib Go.Sort Ip Bl Pm
set_option linter.unusedSimpArgs false
set_option linter.unusedVariables false

/-- The list while what stands behind its k-th address is laid: j of these are in it. -/
structure Gro (T : Tx) (seeds L : List Nat) (k : Nat) (A : List Nat) (j : Nat) : Prop where
  gr : Grows T seeds L k
  part : ∀ a ∈ A.take j, a ∈ L
theorem grow_one {T : Tx} {seeds L : List Nat} {k : Nat} (h : Grows T seeds L k) (hk : k ≤ L.length) {x : Nat} (hx : Bl.Reach T seeds x) (hn : x ∉ L) : Grows T seeds (L ++ [x]) k :=
  ⟨fun a ha => List.mem_append_left _ (h.seed a ha), fun j b hj hb h0 a ha => by
    rw [List.getElem?_append_left (by omega)] at hb
    exact List.mem_append_left _ (h.done j b hj hb h0 a ha), fun a ha => by
    rcases List.mem_append.1 ha with ha | ha
    · exact h.only a ha
    · simp at ha; subst ha; exact hx, List.nodup_append.2 ⟨h.once, by simp, fun a ha b hb => by simp at hb; subst hb; exact fun e => hn (e ▸ ha)⟩⟩
theorem Gro.have_ {T : Tx} {seeds L : List Nat} {k : Nat} {A : List Nat} {j x : Nat} (h : Gro T seeds L k A j) (hx : A[j]? = some x) (hm : x ∈ L) : Gro T seeds L k A (j + 1) :=
  ⟨h.gr, fun a ha => by
    rw [List.take_add_one, hx] at ha
    rcases List.mem_append.1 ha with ha | ha
    · exact h.part a ha
    · simp at ha; subst ha; exact hm⟩
theorem Gro.add {T : Tx} {seeds L : List Nat} {k : Nat} {A : List Nat} {j x : Nat} (h : Gro T seeds L k A j) (hk : k ≤ L.length) (hx : A[j]? = some x) (hr : Bl.Reach T seeds x) (hn : x ∉ L) : Gro T seeds (L ++ [x]) k A (j + 1) :=
  ⟨grow_one h.gr hk hr hn, fun a ha => by
    rw [List.take_add_one, hx] at ha
    rcases List.mem_append.1 ha with ha | ha
    · exact List.mem_append_left _ (h.part a ha)
    · simp at ha; subst ha; simp⟩
theorem Gro.end_ {T : Tx} {seeds L : List Nat} {k b : Nat} (h : Gro T seeds L k (T.suc b) (T.suc b).length) (hb : L[k]? = some b) : Grows T seeds L (k + 1) :=
  ⟨h.gr.seed, fun j c hj hc h0 a ha => by
    by_cases e : j = k
    · subst e
      rw [hb] at hc; injection hc with hc; subst hc
      exact h.part a (by rw [List.take_length]; exact ha)
    · exact h.gr.done j c (by omega) hc h0 a ha, h.gr.only, h.gr.once⟩
theorem grow_err {T : Tx} {seeds L : List Nat} {k b : Nat} (h : Grows T seeds L k) (hb : L[k]? = some b) (h0 : T.err b ≠ 0) : Grows T seeds L (k + 1) :=
  ⟨h.seed, fun j c hj hc he a ha => by
    by_cases e : j = k
    · subst e
      rw [hb] at hc; injection hc with hc; subst hc
      exact absurd he h0
    · exact h.done j c (by omega) hc he a ha, h.only, h.once⟩
/-- The first loop: the entries, each once. -/
structure Ent (i : Img) (es L : List Nat) (k : Nat) : Prop where
  mem : ∀ a, a ∈ L ↔ a = i.entry.toNat ∨ a ∈ es.take k
  once : L.Nodup
theorem ent_start (i : Img) (es : List Nat) : Ent i es [i.entry.toNat] 0 := ⟨fun a => by simp, by simp⟩
theorem Ent.have_ {i : Img} {es L : List Nat} {k x : Nat} (h : Ent i es L k) (hx : es[k]? = some x) (hm : x ∈ L) : Ent i es L (k + 1) :=
  ⟨fun a => by
    rw [List.take_add_one, hx, h.mem a]
    simp only [Option.toList_some, List.mem_append, List.mem_singleton]
    constructor
    · exact fun h => h.elim .inl (fun h => .inr (.inl h))
    · rintro (h1 | h1 | rfl)
      · exact .inl h1
      · exact .inr h1
      · exact (h.mem _).1 hm, h.once⟩
theorem Ent.add {i : Img} {es L : List Nat} {k x : Nat} (h : Ent i es L k) (hx : es[k]? = some x) (hn : x ∉ L) : Ent i es (L ++ [x]) (k + 1) :=
  ⟨fun a => by
    rw [List.take_add_one, hx, List.mem_append, h.mem a]
    simp only [Option.toList_some, List.mem_append, List.mem_singleton]
    constructor
    · rintro ((h1 | h1) | h1)
      · exact .inl h1
      · exact .inr (.inl h1)
      · exact .inr (.inr h1)
    · rintro (h1 | h1 | h1)
      · exact .inl (.inl h1)
      · exact .inl (.inr h1)
      · exact .inr h1, List.nodup_append.2 ⟨h.once, by simp, fun a ha b hb => by simp at hb; subst hb; exact fun e => hn (e ▸ ha)⟩⟩
theorem Ent.len {i : Img} {es L : List Nat} {k : Nat} (h : Ent i es L k) : L.length ≤ es.length + 1 := by
  have := nodup_len (m := i.entry.toNat :: es) h.once (fun a ha => by
    rcases (h.mem a).1 ha with rfl | h1
    · exact List.mem_cons_self
    · exact List.mem_cons_of_mem _ (List.mem_of_mem_take h1))
  simpa using this
theorem Ent.grows {i : Img} {es L : List Nat} {T : Tx} (h : Ent i es L es.length) : Grows T (seedsI i es) L 0 := by
  have hm : ∀ a, a ∈ L ↔ a ∈ seedsI i es := fun a => by rw [h.mem, List.take_length]; unfold seedsI; rw [List.mem_cons]
  exact ⟨fun a ha => (hm a).2 ha, fun j b hj => by omega, fun a ha => reach_seed ((hm a).1 ha), h.once⟩
/-- Memory: the image's box, and the list. -/
structure Rr (w : World) (i : Img) (u : Value) (L : List Nat) (v : Value) (W : World) : Prop where
  ib : W.heap[w.heap.size]? = some (.cells (imgC i u) 26 (0, 0))
  row : W.ownsRow (w.heap.size + 1) 22 1 v L.length (L.map wordV)
  low : Below w.heap.size w W
  big : w.heap.size + 1 ≤ W.heap.size
variable {w : World} {i : Img} {u : Value} {L : List Nat} {v : Value} {W W' : World}
theorem Rr.ext (h : Rr w i u L v W) (hb : Below W.heap.size W W') : Rr w i u L v W' :=
  ⟨keptN hb h.ib, h.row.kept (grown_of_below hb) (by cases v.ownBlock <;> simp), h.low.trans (hb.mono h.low.size), Nat.le_trans h.big hb.size⟩
theorem Rr.app (h : Rr w i u L v W) {o : Obj} {v' : Value} {a : Nat} (hown : W'.ownsRow (w.heap.size + 1) 22 1 v' (L.length + 1) (L.map wordV ++ [.int .u32 (a : Int)])) (hg : (W.alloc o).grownBy W' v.ownBlock) : Rr w i u (L ++ [a]) v' W' := by
  have ha := h.ext ((Below.refl _ W).alloc (Nat.le_refl _) o)
  exact ⟨(hg.block _ (by rw [World.size_alloc]; have := h.big; omega) (fun e => by have := (h.row.lt _ e.symm).1; omega)).trans ha.ib, by simpa [wordV] using hown, ha.low.grown hg (by rw [World.size_alloc]; have := h.big; omega) (fun k e => by have := (h.row.lt k e).1; omega), Nat.le_trans ha.big hg.size⟩
theorem Rr.slw (h : Rr w i u L v W) : SlW W v L := slw_of_owns h.row
/-- .. with an instruction's box, and a list of its own besides. -/
structure Rs (w : World) (i : Img) (u : Value) (L : List Nat) (v : Value) (gx : Nat) (X : Ins) (W : World) : Prop where
  rr : Rr w i u L v W
  xb : W.heap[gx]? = some (.cells (insC X) 38 (0, 0))
end Go.Proofs.YtcffpmicencfpabGreat
namespace Go.Proofs.YtcffpmicencfpabGreat
open Go.RowKit Go.Lib Go.Sort Ip Bl Pm
set_option linter.unusedSimpArgs false
set_option linter.unusedVariables false

variable {w : World} {i : Img} {u : Value} {L : List Nat} {v v' va : Value} {n : Nat} {xs : List Value} {W W' : World}
theorem own_zero {W : World} {B : Nat} {t : TypeId} {k : Nat} {v : Value} {n : Nat} {xs : List Value} (h : W.ownsRow B t k v n xs) : W.ownsRow 0 t k v n xs := by
  refine ⟨h.1, ?_⟩
  rcases h.2 with h0 | ⟨g, cap, cur, h1, h2, h3⟩
  · exact .inl h0
  · exact .inr ⟨g, cap, cur, h1, Nat.zero_le _, h3⟩
/-- A list of the call's own, apart from that of the reached ones. -/
structure Rt (v va : Value) (n : Nat) (xs : List Value) (W : World) : Prop where
  own : W.ownsRow 0 22 1 va n xs
  apart : ∀ k, va.ownBlock = some k → v.ownBlock ≠ some k ∧ k < W.heap.size
theorem Rt.new (h : Rr w i u L v W) (hb : Below W.heap.size W W') (hA : W'.ownsRow W.heap.size 22 1 va n xs) : Rt v va n xs W' := by
  refine ⟨own_zero hA, fun k hk => ?_⟩
  obtain ⟨e1, e2⟩ := hA.lt k hk
  exact ⟨fun e => by have := (h.row.lt k e).2; omega, e2⟩
theorem Rt.ext (h : Rt v va n xs W) (hb : Below W.heap.size W W') : Rt v va n xs W' :=
  ⟨h.own.kept (grown_of_below hb) (by cases va.ownBlock <;> simp), fun k hk => ⟨(h.apart k hk).1, Nat.lt_of_lt_of_le (h.apart k hk).2 hb.size⟩⟩
theorem Rt.app (h : Rt v va n xs W) {o : Obj} (hg : (W.alloc o).grownBy W' v.ownBlock) (hat : v'.ownBlock = v.ownBlock ∨ v'.ownBlock = some (W.alloc o).heap.size) : Rt v' va n xs W' := by
  have hsz : (W.alloc o).heap.size = W.heap.size + 1 := World.size_alloc _ _
  refine ⟨(h.own.alloc o).kept hg ?_, fun k hk => ?_⟩
  · cases e : va.ownBlock with
    | none => exact .inl rfl
    | some k => exact .inr (fun e1 => (h.apart k e).1 e1.symm)
  · obtain ⟨e1, e2⟩ := h.apart k hk
    refine ⟨fun e => ?_, by have := hg.size; omega⟩
    rcases hat with e3 | e3
    · exact e1 (e3 ▸ e)
    · rw [e3] at e; injection e with e; omega
theorem own_low3 {W : World} {B : Nat} {t : TypeId} {k : Nat} {v : Value} {n : Nat} {xs : List Value} (h : W.ownsRow (B + 1) t k v n xs) : W.ownsRow B t k v n xs := by
  refine ⟨h.1, ?_⟩
  rcases h.2 with h0 | ⟨g, cap, cur, h1, h2, h3⟩
  · exact .inl h0
  · exact .inr ⟨g, cap, cur, h1, by omega, h3⟩
theorem five_facts {W : World} {b : Nat} {a0 a1 a2 a3 a4 : Value} {t : TypeId} (h : W.heap[b]? = some (.cells #[a0, a1, a2, a3, a4] t (0, 0))) :
    (W.cell? ⟨b, 0, none⟩ = some a0 ∧ W.cell? ⟨b, 1, none⟩ = some a1 ∧ W.cell? ⟨b, 2, none⟩ = some a2 ∧ W.cell? ⟨b, 3, none⟩ = some a3 ∧ W.cell? ⟨b, 4, none⟩ = some a4) ∧
    (W.frozen? ⟨b, 0, none⟩ = false ∧ W.frozen? ⟨b, 1, none⟩ = false ∧ W.frozen? ⟨b, 2, none⟩ = false ∧ W.frozen? ⟨b, 3, none⟩ = false ∧ W.frozen? ⟨b, 4, none⟩ = false) := by
  simp [World.cell?, World.frozen?, h]
theorem rat8_lit (i : Img) (v : Value) (a : Nat) (ha : a < 4294967296) (hi : i.ok) (op rd rs1 rs2 imm : Int) (hX : insA i a = ⟨op, rd, rs1, rs2, imm⟩) (E : Nat) (hE : errA i a = E) (w : World) (hS : SlW w v i.words) :
    Calls Tryz.prog 9 #[imgV i v, .int .u32 (a : Int)] w fun e w' => e = .returned (.tuple #[.agg #[.int .i64 op, .int .i64 rd, .int .i64 rs1, .int .i64 rs2, .int .i64 imm], .int .i64 (E : Int)]) ∧ Below w.heap.size w w' := rat8_at i v a ha hi _ hX E hE w hS
theorem Rs.new (h : Rr w i u L v W) (X : Ins) : Rs w i u L v W.heap.size X (W.alloc (.cells (insC X) 38)) := ⟨h.ext ((Below.refl _ _).alloc (Nat.le_refl _) _), heap_alloc_new _ _⟩
theorem Rr.set (h : Rr w i u L v W) {g : Nat} {cs : Array Value} {t : TypeId} {fr : Nat × Nat} (hg : W.heap[g]? = some (.cells cs t fr)) (hlo : w.heap.size + 1 ≤ g) (ht : t ≠ 22) (k : Nat) (x : Value) : Rr w i u L v (W.setCell ⟨g, k, none⟩ x) := by
  have hs := grown_setCell W ⟨g, k, none⟩ x
  exact ⟨(Below.heap_setCell _ _ _ _ (by show w.heap.size ≠ g; omega)).trans h.ib, h.row.kept hs (.inr (fun e => row_box h.row hg ht e.symm)), h.low.setCell (by show w.heap.size ≤ g; omega) _, by have := h.big; simpa using this⟩
theorem Rs.five (h : Rr w i u L v W) {g : Nat} {z0 z1 z2 z3 z4 : Value} (hg : W.heap[g]? = some (.cells #[z0, z1, z2, z3, z4] 38 (0, 0))) (hlo : w.heap.size + 1 ≤ g) (X : Ins) :
    Rs w i u L v g X (((((W.setCell ⟨g, 0, none⟩ (.int .i64 X.op)).setCell ⟨g, 1, none⟩ (.int .i64 X.rd)).setCell ⟨g, 2, none⟩ (.int .i64 X.rs1)).setCell ⟨g, 3, none⟩ (.int .i64 X.rs2)).setCell ⟨g, 4, none⟩ (.int .i64 X.imm)) := by
  have g1 := heap_setCell_same _ g 0 _ _ (.int .i64 X.op) hg
  have g2 := heap_setCell_same _ g 1 _ _ (.int .i64 X.rd) g1
  have g3 := heap_setCell_same _ g 2 _ _ (.int .i64 X.rs1) g2
  have g4 := heap_setCell_same _ g 3 _ _ (.int .i64 X.rs2) g3
  have g5 := heap_setCell_same _ g 4 _ _ (.int .i64 X.imm) g4
  exact ⟨((((h.set hg hlo (by decide) 0 _).set g1 hlo (by decide) 1 _).set g2 hlo (by decide) 2 _).set g3 hlo (by decide) 3 _).set g4 hlo (by decide) 4 _, by rw [g5]; rfl⟩
set_option maxHeartbeats 8000000 in
set_option maxRecDepth 100000 in
theorem rreached_any (i : Img) (v ve : Value) (es : List Nat) (hes : ∀ a ∈ es, a < 4294967296) (hel : es.length ≤ 1000) (hi : i.ok) (w : World) (hS : SlW w v i.words) (hE : SlW w ve es) :
    Calls Tryz.prog 8 #[imgV i v, ve] w fun e W' => ∃ L, Closed (txI i) (seedsI i es) L ∧ (∀ a ∈ L, a < 4294967296) ∧ L.length ≤ 2001001 ∧ ∃ u, e = .returned u ∧ W'.ownsRow w.heap.size 22 1 u L.length (L.map wordV) ∧ Below w.heap.size w W' := by
  obtain ⟨i0, hii, hz0, hz1, hz2⟩ := info_parts infoU
  obtain ⟨p0, q0, rfl, _⟩ := hS.len
  obtain ⟨pe, qe, rfl, _⟩ := hE.len
  have b0 : ∀ o, Below w.heap.size w (w.alloc o) := fun o => (Below.refl _ w).alloc (Nat.le_refl _) _
  have hib := heap_alloc_new w (.cells (imgC i (.slice p0 i.words.length q0)) 26)
  have c1 : (w.alloc (.cells (imgC i (.slice p0 i.words.length q0)) 26)).cell? ⟨w.heap.size, 1, none⟩ = some (.int .u32 (i.entry.toNat : Int)) := by rw [World.cell?_alloc_at _ _ _ _ rfl]; rfl
  have hst : Rr w i (.slice p0 i.words.length q0) [i.entry.toNat] (.slice (some ⟨w.heap.size + 1, 0, none⟩) 1 1) ((w.alloc (.cells (imgC i (.slice p0 i.words.length q0)) 26)).alloc (.cells #[.int .u32 (i.entry.toNat : Int)] 22)) := by
    have h2 := heap_alloc_new (w.alloc (.cells (imgC i (.slice p0 i.words.length q0)) 26)) (.cells #[.int .u32 (i.entry.toNat : Int)] 22)
    rw [World.size_alloc] at h2
    exact ⟨keptN ((Below.refl _ _).alloc (Nat.le_refl _) _) hib, ⟨rfl, .inr ⟨w.heap.size + 1, 1, _, rfl, Nat.le_refl _, h2, Nat.le_refl _, by decide, rfl, rfl⟩⟩, (b0 _).alloc (by simp) _, by simp⟩
  have HST := hideE hst
  have HS := hideE hS
  have HE := hideE hE
  have HF := hideE (txI_fair hi)
  have HI := hideE hi
  have HES := hideE hes
  clear hS hE hi hes hst b0 hib
  unfold imgC at c1
  simp only [imgV]
  go_enter Tryz.func8, Tryz.ntmps8
  go_upto_region 2 with fail
  refine gen_world (Rr w i (.slice p0 i.words.length q0) [i.entry.toNat] (.slice (some ⟨w.heap.size + 1, 0, none⟩) 1 1)) HST.out ?_
  clear HST c1
  intro wa h1
  obtain ⟨ne, hne⟩ : ∃ ne, es.length = ne := ⟨_, rfl⟩
  have HNE := hideE hne
  rw [hne] at hel HE ⊢
  clear hne
  go_upto_region 3 with fail
  go_loopg [5, 6] ne (fun q s5 j W => ∃ (k : Nat) (L : List Nat), k + q = ne ∧ j = .int .i64 (k : Int) ∧ Rr w i (.slice p0 i.words.length q0) L s5 W ∧ Ent i es L k)
  case atStart => exact ⟨0, _, by omega, rfl, h1, ent_start i es⟩
  case round =>
    clear h1
    obtain ⟨k, L, hkq, rfl, h2, hEn⟩ := hrel
    have hLl := hEn.len
    rw [HNE.out] at hLl
    have HEn := hideE hEn
    clear hEn
    obtain ⟨pl, cl, rfl⟩ := own_slice' h2.row
    cases gk with
    | succ q =>
      have hk : ((k : Int) < (ne : Int)) := by omega
      have hk0 : (0 : Int) ≤ (k : Int) := by omega
      have hwk : IntKind.i64.wrap ((k : Int) + 1) = (k : Int) + 1 := wrE (by omega) (by omega)
      obtain ⟨x, hx⟩ : ∃ x, es[k]? = some x := ⟨es[k]'(by rw [HNE.out]; omega), List.getElem?_eq_getElem (by rw [HNE.out]; omega)⟩
      have hE2 := HE.out.below h2.low
      obtain ⟨g, o, rfl, a3⟩ := hE2.at hx
      have Hx := hideE hx
      have hsl := h2.slw
      have HHas := hideE (has_any8 L _ x (by omega) wr hsl)
      obtain ⟨hb, hhb⟩ : ∃ hb, hasL L x = hb := ⟨_, rfl⟩
      rw [hhb] at HHas
      have HHB := hideE hhb
      have hrow := h2.row
      have hbig := h2.big
      have H2 := hideE h2
      clear hx hE2 hsl hhb h2
      cases hb with
      | true =>
        clear hrow
        go_wp2_with (go_at_call 10; refine HHas.out.mono ?_; rintro e w5 ⟨rfl, rfl⟩)
        go_roundg q
        case measure => omega
        case rel => exact ⟨k + 1, L, by omega, by simp, H2.out, HEn.out.have_ Hx.out (hasL_iff.1 HHB.out)⟩
      | false =>
        have hno : Hid (x ∉ L) := fun e => by have := hasL_iff.2 e; rw [HHB.out] at this; cases this
        go_wp2_with (first
          | (go_at_call 10; refine HHas.out.mono ?_; rintro e w5 ⟨rfl, rfl⟩)
          | (at_builtin; refine wpList_append_own _ rfl _ _ 24 rfl (w.heap.size + 1) 22 i0 (.int .u32 0) 1 4 Tryz.underlying24 hii hz0 hz1 hz2 rfl (by decide) _ _ _ rfl (hrow.alloc _) ⟨_, 0, none⟩ 1 1 [.int .u32 (x : Int)] rfl rfl (cell_one_new _ _ _) (by simp [Value.oneCell']) (by unfold maxLen; omega) (by omega) (by simp; omega) ?_; intro v' w3 hown' hgrow _))
        go_roundg q
        case measure => omega
        case rel => exact ⟨k + 1, L ++ [x], by omega, by simp, H2.out.app hown' hgrow, HEn.out.add Hx.out hno.out⟩
    | zero =>
      obtain rfl : k = ne := by omega
      have hk : ¬ ((k : Int) < (k : Int)) := by omega
      have HG : Hid (Grows (txI i) (seedsI i es) L 0) := by
        have h := HEn.out
        rw [← HNE.out] at h
        exact h.grows
      obtain ⟨N, hN⟩ : ∃ N, k + 1 + 2 * i.words.length = N := ⟨_, rfl⟩
      have hNl : N ≤ 2001001 := by have := HI.out.2.2.1; omega
      have HN := hideE hN
      clear hN
      refine gen_world (Rr w i (.slice p0 i.words.length q0) L (.slice pl L.length cl)) h2 ?_
      clear h2 HEn
      intro wb h3
      go_upto_region 8 with fail
      go_loopg [5, 7] N (fun q s5 j W => ∃ (k : Nat) (L : List Nat), N ≤ k + q ∧ k ≤ L.length ∧ j = .int .i64 (k : Int) ∧ Rr w i (.slice p0 i.words.length q0) L s5 W ∧ Grows (txI i) (seedsI i es) L k)
      case atStart => exact ⟨0, L, by omega, Nat.zero_le _, rfl, h3, HG.out⟩
      case round =>
        clear h3 HG hk hLl hkq
        obtain ⟨t, L, hq, htl, rfl, h4, hG⟩ := hrel
        have hbd := hG.len HF.out.word HF.out.two
        have hsl : (seedsI i es).length = k + 1 := by rw [← HNE.out]; rfl
        have hn : (txI i).n = i.words.length := rfl
        rw [hsl, hn, HN.out] at hbd
        have HG := hideE hG
        clear hG hsl hn
        obtain ⟨pl, cl, rfl⟩ := own_slice' h4.row
        by_cases hlt : t < L.length
        · obtain ⟨q, rfl⟩ : ∃ q, gk = q + 1 := ⟨gk - 1, by omega⟩
          have hk : ((t : Int) < (L.length : Int)) := by omega
          have hk0 : (0 : Int) ≤ (t : Int) := by omega
          have hwk : IntKind.i64.wrap ((t : Int) + 1) = (t : Int) + 1 := wrE (by omega) (by omega)
          obtain ⟨a, ha⟩ : ∃ a, L[t]? = some a := ⟨L[t]'hlt, List.getElem?_eq_getElem hlt⟩
          have hra := HG.out.only a (List.mem_of_getElem? ha)
          have hal : a < 4294967296 := by
            refine reach_least (P := fun a => a < 4294967296) (fun b hb => ?_) (fun b _ _ c hc => suc_lt hc) hra
            rcases List.mem_cons.1 hb with rfl | hb
            · exact i.entry.isLt
            · exact HES.out b hb
          obtain ⟨g, rfl⟩ := own_some h4.row (by omega)
          have a3 : wr.cell? ⟨g, t, none⟩ = some (.int .u32 (a : Int)) := by
            rw [h4.row.cellAt t (by omega), List.getElem?_map, ha]; rfl
          have ib' : wr.heap[w.heap.size]? = some (.cells #[.int .u32 (i.base.toNat : Int), .int .u32 (i.entry.toNat : Int), .slice p0 i.words.length q0, .int .i64 (i.seg : Int)] 26 (0, 0)) := h4.ib
          obtain ⟨⟨m0, m1, m2, m3⟩, _⟩ := four ib'
          have Ha := hideE ha
          have HRa := hideE hra
          obtain ⟨X, hX⟩ : ∃ X, insA i a = X := ⟨_, rfl⟩
          obtain ⟨op, rd, rs1, rs2, imm⟩ := X
          obtain ⟨ER, hER⟩ : ∃ ER, errA i a = ER := ⟨_, rfl⟩
          have HAt := hideE (fun W (hW : Below w.heap.size w W) => rat8_lit i (.slice p0 i.words.length q0) a hal HI.out op rd rs1 rs2 imm hX ER hER W (HS.out.below hW))
          have HX := hideE hX
          have HER := hideE hER
          have hld := h4.low.drew
          have hgl : g < wr.heap.size := (h4.row.lt g rfl).2
          have hbg : w.heap.size < wr.heap.size := h4.big
          have hgn : g ≠ wr.heap.size := by omega
          have hbn : w.heap.size ≠ wr.heap.size := by omega
          have H4 := hideE h4
          clear ha hra ib' hX hER h4
          go_upto_region 10 with fail
          go_cut [8, 9] (fun s8 s9 W => ∃ gx, s8 = .pointer (some ⟨gx, 0, none⟩) ∧ s9 = .int .i64 (ER : Int) ∧ Rs w i (.slice p0 i.words.length q0) L (.slice (some ⟨g, 0, none⟩) L.length cl) gx ⟨op, rd, rs1, rs2, imm⟩ W)
          case first =>
            go_region_with (go_at_call 9; refine (HAt.out _ (by first | exact hld | exact hld.alloc hld.size _)).mono ?_; rintro e wh ⟨rfl, hbh⟩; first | (obtain ⟨⟨y0, y1, y2, y3, y4⟩, f0, f1, f2, f3, f4⟩ := five_facts (keptN hbh (heap_alloc_new wr (.cells #[.int .i64 0, .int .i64 0, .int .i64 0, .int .i64 0, .int .i64 0] 38)))) | skip)
            all_goals
              go_wp2_with fail
              go_meet
              case rel =>
                first
                  | exact ⟨_, rfl, rfl, Rs.new ((H4.out.ext (Below.refl _ wr).drew).ext hbh) ⟨op, rd, rs1, rs2, imm⟩⟩
                  | exact ⟨_, rfl, rfl, Rs.five (((H4.out.ext (Below.refl _ wr).drew).ext ((Below.refl _ _).alloc (Nat.le_refl _) _)).ext hbh) (keptN hbh (heap_alloc_new wr (.cells #[.int .i64 0, .int .i64 0, .int .i64 0, .int .i64 0, .int .i64 0] 38))) (by omega) ⟨op, rd, rs1, rs2, imm⟩⟩
          case rest =>
            clear a3 m0 m1 m2 m3 hld hbg hgl hgn hbn H4 HAt
            obtain ⟨gx, rfl, rfl, h5⟩ := hcut
            by_cases h0 : ER = 0
            · subst h0
              obtain ⟨c0, c1, c2, c3, c4⟩ := five (show wc.heap[gx]? = some (.cells #[.int .i64 op, .int .i64 rd, .int .i64 rs1, .int .i64 rs2, .int .i64 imm] 38 (0, 0)) from h5.xb)
              have a3 : wc.cell? ⟨g, t, none⟩ = some (.int .u32 (a : Int)) := by
                rw [h5.rr.row.cellAt t (by omega), List.getElem?_map, Ha.out]; rfl
              have H5 := hideE h5
              have hcl0 : 0 ≤ cl := Nat.zero_le _
              clear h5
              obtain ⟨A, hA⟩ : ∃ A, aftI ⟨op, rd, rs1, rs2, imm⟩ a = A := ⟨_, rfl⟩
              have HAA : Hid ((txI i).suc a = A) := show _ = _ by rw [← hA, ← HX.out]; rfl
              have hA2 : A.length ≤ 2 := by rw [← hA]; exact aft_two _ _ _ _ _ _
              have HAF := hideE (fun W => hA ▸ rafter_any ⟨op, rd, rs1, rs2, imm⟩ a W)
              clear hA
              go_upto_region 12 with fail
              go_cut [10] (fun s10 W => ∃ pa ca, s10 = .slice pa A.length ca ∧ Rr w i (.slice p0 i.words.length q0) L (.slice (some ⟨g, 0, none⟩) L.length cl) W ∧ Rt (.slice (some ⟨g, 0, none⟩) L.length cl) (.slice pa A.length ca) A.length (A.map wordV) W)
              case first =>
                go_region_with (go_at_call 20; refine (HAF.out _).mono ?_; rintro e wh ⟨va, rfl, hAr, hbh⟩; obtain ⟨pa, ca, rfl⟩ := own_slice' hAr)
                all_goals
                  go_wp2_with fail
                  go_meet
                  case rel => exact ⟨_, _, rfl, (H5.out.rr.ext (Below.refl _ wc).drew).ext hbh, Rt.new (H5.out.rr.ext (Below.refl _ wc).drew) hbh hAr⟩
              case rest =>
                clear a3 c0 c1 c2 c3 c4 H5 HAF
                obtain ⟨pa, ca, rfl, h6, h7⟩ := hcut
                obtain ⟨nA, hnA⟩ : ∃ nA, A.length = nA := ⟨_, rfl⟩
                have HNA := hideE hnA
                rw [hnA] at h7 hA2 ⊢
                clear hnA
                go_upto_region 14 with fail
                go_loopg [5, 11] nA (fun q2 s5 j W => ∃ (m : Nat) (L2 : List Nat), m + q2 = nA ∧ j = .int .i64 (m : Int) ∧ Rr w i (.slice p0 i.words.length q0) L2 s5 W ∧ Rt s5 (.slice pa nA ca) nA (A.map wordV) W ∧ Gro (txI i) (seedsI i es) L2 t A m ∧ L2[t]? = some a)
                case atStart => exact ⟨0, L, by omega, rfl, h6, h7, ⟨HG.out, fun x hx => by simp at hx⟩, Ha.out⟩
                case round =>
                  clear h6 h7 HG Ha
                  obtain ⟨m, L2, hmq, rfl, h8, h9, hGr, hLa⟩ := hrel
                  have hbd2 := hGr.gr.len HF.out.word HF.out.two
                  have hsl : (seedsI i es).length = k + 1 := by rw [← HNE.out]; rfl
                  have hn : (txI i).n = i.words.length := rfl
                  rw [hsl, hn, HN.out] at hbd2
                  have htl2 := (List.getElem?_eq_some_iff.1 hLa).1
                  have HGr := hideE hGr
                  have HLa := hideE hLa
                  clear hGr hLa hsl hn
                  obtain ⟨pl2, cl2, rfl⟩ := own_slice' h8.row
                  cases gk with
                  | zero =>
                    obtain rfl : m = nA := by omega
                    have hkm : ¬ ((m : Int) < (m : Int)) := by omega
                    have HEND := hideE (Gro.end_ (by rw [HAA.out, HNA.out]; exact HGr.out) HLa.out)
                    have H8 := hideE h8
                    clear h8 h9
                    go_wp2_with fail
                    go_roundg q
                    case measure => omega
                    case rel => exact ⟨t + 1, L2, by omega, by omega, by simp, H8.out, HEND.out⟩
                  | succ qq =>
                    have hkm : ((m : Int) < (nA : Int)) := by omega
                    have hkm0 : (0 : Int) ≤ (m : Int) := by omega
                    have hwm : IntKind.i64.wrap ((m : Int) + 1) = (m : Int) + 1 := wrE (by omega) (by omega)
                    obtain ⟨x, hx⟩ : ∃ x, A[m]? = some x := ⟨A[m]'(by rw [HNA.out]; omega), List.getElem?_eq_getElem (by rw [HNA.out]; omega)⟩
                    have hxr : Bl.Reach (txI i) (seedsI i es) x := reach_step HRa.out (by show errA i a = 0; exact HER.out) (by rw [HAA.out]; exact List.mem_of_getElem? hx)
                    obtain ⟨ga, rfl⟩ := own_some h9.own (by omega)
                    have a5 : wr.cell? ⟨ga, m, none⟩ = some (.int .u32 (x : Int)) := by
                      rw [h9.own.cellAt m (by omega), List.getElem?_map, hx]; rfl
                    have HHas := hideE (has_any8 L2 _ x (by omega) wr h8.slw)
                    obtain ⟨hb, hhb⟩ : ∃ hb, hasL L2 x = hb := ⟨_, rfl⟩
                    rw [hhb] at HHas
                    have HHB := hideE hhb
                    have Hx := hideE hx
                    have HXr := hideE hxr
                    have hrow := h8.row
                    have hbig := h8.big
                    have H8 := hideE h8
                    have H9 := hideE h9
                    clear hx hhb h8 h9 hxr
                    cases hb with
                    | true =>
                      clear hrow
                      go_wp2_with (go_at_call 10; refine HHas.out.mono ?_; rintro e w5 ⟨rfl, rfl⟩)
                      go_roundg qq
                      case measure => omega
                      case rel => exact ⟨m + 1, L2, by omega, by simp, H8.out, H9.out, HGr.out.have_ Hx.out (hasL_iff.1 HHB.out), HLa.out⟩
                    | false =>
                      have hno : Hid (x ∉ L2) := fun e => by have := hasL_iff.2 e; rw [HHB.out] at this; cases this
                      go_wp2_with (first
                        | (go_at_call 10; refine HHas.out.mono ?_; rintro e w5 ⟨rfl, rfl⟩)
                        | (at_builtin; refine wpList_append_own_at _ rfl _ _ 24 rfl (w.heap.size + 1) 22 i0 (.int .u32 0) 1 4 Tryz.underlying24 hii hz0 hz1 hz2 rfl (by decide) _ _ _ rfl (hrow.alloc _) ⟨_, 0, none⟩ 1 1 [.int .u32 (x : Int)] rfl rfl (cell_one_new _ _ _) (by simp [Value.oneCell']) (by unfold maxLen; omega) (by omega) (by simp; omega) ?_; intro v' w3 hown' hgrow _ hat))
                      go_roundg qq
                      case measure => omega
                      case rel => exact ⟨m + 1, L2 ++ [x], by omega, by simp, H8.out.app hown' hgrow, H9.out.app hgrow hat, HGr.out.add (by omega) Hx.out HXr.out hno.out, by rw [List.getElem?_append_left htl2]; exact HLa.out⟩
            · have hne : ((ER : Int) != 0) = true := bne_iff_ne.2 (by omega)
              have HEr := hideE (grow_err HG.out Ha.out (by show errA i a ≠ 0; rw [HER.out]; exact h0))
              have H5 := hideE h5.rr
              clear h5 h0
              go_wp2_with fail
              go_roundg q
              case measure => omega
              case rel => exact ⟨t + 1, L, by omega, by omega, by simp, H5.out, HEr.out⟩
        · obtain rfl : t = L.length := by omega
          have hk : ¬ ((L.length : Int) < (L.length : Int)) := by omega
          have hcl := HG.out.closed (Nat.le_refl _)
          have HCl := hideE hcl
          have hlts : ∀ a ∈ L, a < 4294967296 := fun a ha => by
            refine reach_least (P := fun a => a < 4294967296) (fun b hb => ?_) (fun b _ _ c hc => suc_lt hc) (hcl.only a ha)
            rcases List.mem_cons.1 hb with rfl | hb
            · exact i.entry.isLt
            · exact HES.out b hb
          have hrow := own_low3 h4.row
          have hlow := h4.low
          have HLt := hideE hlts
          clear h4 hcl hlts HG
          go_wp2_with fail
          go_ret
          exact ⟨L, HCl.out, HLt.out, by omega, _, rfl, hrow, hlow⟩
end Go.Proofs.YtcffpmicencfpabGreat
