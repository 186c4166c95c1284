/-
  Contract of the law's fixed: calls whose answers the document fixes.
-/
import Derived.Test.YtkfomhllaogplaaER
import Derived.Laws.IdiomStrings
import Derived.Laws.MakeOwn
namespace Go.Proofs.Ytkfomhllaogplaa
open Go.RowKit El Go.Lib
open Classical
set_option linter.unusedSimpArgs false

def segA : Seg := ⟨(BitVec.ofNat 32 4096), [97, 98, 99, 100], 8, 5⟩
def segB : Seg := ⟨(BitVec.ofNat 32 4103), [], 1, 0⟩
def segZ : Seg := ⟨(BitVec.ofNat 32 0), [], 0, 0⟩
theorem one_chk : chk oneP.segs = 0 := by
  refine chk_ok (by decide) (fun g hg => ?_) (fun ⟨i, j, g, h, hij, hi, hj, _⟩ => ?_)
  · simp [oneP] at hg; subst hg
    refine ⟨by decide, by decide, by decide, by decide, by decide, by decide⟩
  · have := (List.getElem?_eq_some_iff.1 hi).1
    have : i < 1 := this
    omega
theorem two_chk : chk [segA, segB] = 63 := by
  refine chk_meet (by decide) (fun g hg => ?_) ⟨1, 0, segB, segA, by decide, rfl, rfl, ?_⟩
  · simp at hg
    rcases hg with rfl | rfl <;> refine ⟨by decide, by decide, by decide, by decide, by decide, by decide⟩
  · unfold Seg.apart segA segB; decide
theorem zero_chk : chk [segZ] = 62 := chk_form (by decide) (List.mem_singleton.2 rfl) (fun h => absurd h.1 (by decide))
theorem one_len : (El.wr oneP).length = 88 := by rw [wr_len]; decide
theorem one_back : prsE (El.wr oneP) = 0 ∧ prsV (El.wr oneP) = oneP := back_wr one_chk (by rw [one_len]; omega)
theorem nil_prs : prsE [] = 60 := by unfold prsE; rw [if_pos (by decide)]
theorem zeros_prs : prsE (List.replicate 52 0) = 61 := by
  unfold prsE
  rw [if_neg (by simp), if_pos]
  intro h
  have := h.1
  simp [El.mark] at this
theorem infoBy : (Try.prog.info? 5).map (fun i => (i.zero, i.size, i.bytes)) = some (some (.int .u8 0), 1, 1) := by kernel_rfl
theorem make52 : ∃ M : Array Value, (∀ W : World, (Instr.makeSlice 58 (.int .i64 52) (.int .i64 52)).run Try.prog W = .ok (.slice (some ⟨W.heap.size, 0, none⟩) 52 52) (W.alloc (.cells M 5))) ∧
    (∀ W : World, (convert 58 9 (.slice (some ⟨W.heap.size, 0, none⟩) 52 52)).run Try.prog (W.alloc (.cells M 5)) = .ok (.string ⟨(List.replicate 52 (0 : UInt8)).toArray⟩) (W.alloc (.cells M 5))) := by
  obtain ⟨i0, hi, hz0, hz1, hz2⟩ := info_partsE infoBy
  refine ⟨madeCells (Value.int .u8 0).cells (52 * i0.size), fun W => ?_, fun W => ?_⟩
  · have h := run_make (P := Try.prog) W 58 5 i0 (.int .u8 0) Try.underlying58 hi hz0 .i64 .i64 52 52 (by omega) (by omega) (by rw [hz2]; omega) (by omega)
    simpa using h
  · have e : (madeCells (Value.int .u8 0).cells (52 * i0.size)).toList = List.replicate 52 (.int .u8 0) := by
      rw [hz1]; exact toList_madeCells_one _ _
    have := run_convert_bytes_back (P := Try.prog) (W.alloc (.cells (madeCells (Value.int .u8 0).cells (52 * i0.size)) 5)) 58 9 5 ⟨W.heap.size, 0, none⟩ 52 (List.replicate 52 0) Try.underlying58 Try.underlying5 Try.underlying9 (fun j hj => by
      rw [List.length_replicate] at hj
      have hc : (W.alloc (.cells (madeCells (Value.int .u8 0).cells (52 * i0.size)) 5)).cell? ⟨W.heap.size, j, none⟩ = some (.int .u8 0) := by
        rw [Lib.cell_of_heap (heap_alloc_new W _), ← Array.getElem?_toList, e, List.getElem?_replicate, if_pos hj]
      have ha : (⟨W.heap.size, 0, none⟩ : Addr).add j = ⟨W.heap.size, j, none⟩ := by unfold Addr.add; split <;> simp_all
      rw [ha, hc, List.getElem_replicate]; rfl)
    rwa [List.length_replicate] at this
theorem own_set {W : World} {B : Nat} {t t' : TypeId} {k : Nat} {v : Value} {n : Nat} {xs : List Value} (h : W.ownsRow B t k v n xs) {b o : Nat} {cs : Array Value} {fr : Nat × Nat} (hb : W.heap[b]? = some (.cells cs t' fr)) (ht : t ≠ t') (u : Value) : (W.setCell ⟨b, o, none⟩ u).ownsRow B t k v n xs := by
  refine ⟨h.1, ?_⟩
  rcases h.2 with h0 | ⟨g, cap, cur, h1, h2, h3, h4⟩
  · exact .inl h0
  · exact .inr ⟨g, cap, cur, h1, h2, by rw [set_other _ _ _ _ (fun e => by subst e; rw [hb] at h3; injection h3 with h3; injection h3 with _ h3; exact ht h3.symm)]; exact h3, h4⟩
theorem fitsAB : ∀ g ∈ [segA, segB], Fits g := fun g hg => by
  simp at hg
  rcases hg with rfl | rfl <;> exact ⟨by decide, by decide⟩
theorem fitsZ : ∀ g ∈ [segZ], Fits g := fun g hg => by
  simp at hg
  subst hg; exact ⟨by decide, by decide⟩
theorem slsZ (W : World) : SlS (W.alloc (.cells #[.int .u32 0, .string ⟨#[]⟩, .int .i64 0, .int .i64 0] 42)) (.slice (some ⟨W.heap.size, 0, none⟩) 1 1) [segZ] := by
  refine .inr ⟨W.heap.size, 0, 1, rfl, Nat.le_refl _, by simp, fun j hj => ?_⟩
  rw [Nat.zero_add, Lib.cell_of_heap (heap_alloc_new W _)]
  have hj4 : j < 4 := hj
  match j, hj4 with
  | 0, _ => rfl
  | 1, _ => rfl
  | 2, _ => rfl
  | 3, _ => rfl
/-- While fixed makes its answer: the parsed program, the one of two segments. -/
structure FixW (w : World) (b3 b9 : Nat) (v3 v9 : Value) (W : World) : Prop where
  x3 : W.heap[b3]? = some (.cells #[.int .u32 (oneP.entry.toNat : Int), .int .u32 (oneP.flags.toNat : Int), v3] 25 (0, 0))
  s3 : SlS W v3 oneP.segs
  x9 : W.heap[b9]? = some (.cells #[.int .u32 (oneP.entry.toNat : Int), .int .u32 (oneP.flags.toNat : Int), v9] 25 (0, 0))
  s9 : SlS W v9 [segA, segB]
  low : Below w.heap.size w W
theorem FixW.below {w W W' : World} {b3 b9 : Nat} {v3 v9 : Value} (h : FixW w b3 b9 v3 v9 W) (hb : Below W.heap.size W W') : FixW w b3 b9 v3 v9 W' :=
  ⟨keptN hb h.x3, h.s3.below hb, keptN hb h.x9, h.s9.below hb, h.low.trans (hb.mono h.low.size)⟩
theorem FixW.drew {w W : World} {b3 b9 : Nat} {v3 v9 : Value} (h : FixW w b3 b9 v3 v9 W) : FixW w b3 b9 v3 v9 W.drew := h.below (Below.refl _ W).drew
structure T3 (w : World) (b3 : Nat) (v3 : Value) (W : World) : Prop where
  x3 : W.heap[b3]? = some (.cells #[.int .u32 (oneP.entry.toNat : Int), .int .u32 (oneP.flags.toNat : Int), v3] 25 (0, 0))
  s3 : SlS W v3 oneP.segs
  low : Below w.heap.size w W
theorem T3.below {w W W' : World} {b3 : Nat} {v3 : Value} (h : T3 w b3 v3 W) (hb : Below W.heap.size W W') : T3 w b3 v3 W' :=
  ⟨keptN hb h.x3, h.s3.below hb, h.low.trans (hb.mono h.low.size)⟩
theorem T3.alloc {w W : World} {b3 : Nat} {v3 : Value} (h : T3 w b3 v3 W) (o : Obj) : T3 w b3 v3 (W.alloc o) := h.below ((Below.refl _ W).alloc (Nat.le_refl _) o)
theorem box_grown {W W' : World} {B : Nat} {k : Nat} {v : Value} {n : Nat} {xs : List Value} {E F : Value} {o : Obj} (h : W.ownsRow B 42 k v n xs) (hg : ((W.alloc (.cells #[E, F, v] 25)).alloc o).grownBy W' v.ownBlock) : W'.heap[W.heap.size]? = some (.cells #[E, F, v] 25 (0, 0)) := by
  rw [hg.block _ (by simp; omega) (fun e => by have := (h.lt _ e.symm).2; omega), Below.heap_alloc _ _ _ (by simp)]
  exact heap_alloc_new W _
end Go.Proofs.Ytkfomhllaogplaa
