/-
  What the outside is asked: called.
-/
import Derived.Test.YtilphdfobflbiaaCI
import Derived.Laws.CopyOwn
namespace Go.Proofs.Ytilphdfobflbiaa
open Go.RowKit Go.Maps Cp Ip Mm
set_option linter.unusedSimpArgs false

/-- The cells of a call: the registers 10 to 17. -/
def askL (c : Mach) : List Value := row (fun i => c.x (10 + i)) 8
theorem askL_len (c : Mach) : (askL c).length = 8 := row_len _ _
theorem askL_one (c : Mach) : ∀ v ∈ askL c, v.oneCell' = true := by
  intro v hv
  unfold askL row at hv
  simp only [List.mem_map] at hv
  obtain ⟨i, _, rfl⟩ := hv; rfl
theorem askL_at (c : Mach) (j : Nat) (v : Value) (h : (askL c)[j]? = some v) : j < 8 ∧ v = .int .u32 ((c.x (10 + j)).toNat : Int) := by
  have hj : j < 8 := by
    have := (List.getElem?_eq_some_iff.1 h).1
    rwa [askL_len] at this
  unfold askL at h
  rw [row_at _ _ _ hj] at h
  exact ⟨hj, (Option.some.inj h).symm⟩
def zero8 : List Value := List.replicate 8 (.int .u32 0)
theorem zeroK (w : World) : (zeroValue 72).run Try.prog w = .ok (.agg zero8.toArray) w := by kernel_rfl
theorem infoK : (Try.prog.info? 72).map (·.size) = some 8 := by kernel_rfl
theorem infoKs (c : Mach) : (Try.prog.info? 72).map (·.size) = some (askL c).toArray.size := by rw [infoK]; simp [askL_len]
theorem infoU1 : (Try.prog.info? 22).map (·.size) = some 1 := by kernel_rfl
theorem splice_all (c : Mach) : splice zero8 0 (askL c) = askL c := by
  unfold splice; simp [zero8, askL_len]
/-- While a call is noted: the machine in block g, the answer's box and the note's. -/
structure AskAt (w : World) (g : Nat) (c : Mach) (W : World) : Prop where
  box : BoxC W g c
  res : W.heap[w.heap.size]? = some (.cells zero8.toArray 72 (0, 0))
  note : ∃ k : List Value, W.heap[w.heap.size + 1]? = some (.cells k.toArray 72 (0, 0))
  low : Below w.heap.size w W

set_option maxRecDepth 100000 in
set_option maxHeartbeats 4000000 in
theorem called_any {g : Nat} {c : Mach} (w : World) (h : BoxC w g c) :
    Calls Try.prog 31 #[.pointer (some ⟨g, 0, none⟩)] w fun e w' => e = .returned (.agg (askL c).toArray) ∧ Below w.heap.size w w' := by
  have hz := zeroK
  have n0 : ((w.alloc (.cells zero8.toArray 72)).alloc (.cells zero8.toArray 72)).heap[w.heap.size + 1]? = some (.cells zero8.toArray 72 (0, 0)) := Go.heap_alloc2_new w _ _
  have r0 : ((w.alloc (.cells zero8.toArray 72)).alloc (.cells zero8.toArray 72)).heap[w.heap.size]? = some (.cells zero8.toArray 72 (0, 0)) := Go.heap_alloc2_old w _ _
  have A0 : AskAt w g c ((w.alloc (.cells zero8.toArray 72)).alloc (.cells zero8.toArray 72)) := ⟨(h.alloc _).alloc _, r0, ⟨_, n0⟩, ((Below.refl _ _).alloc (Nat.le_refl _) _).alloc (by simp) _⟩
  go_enter Try.func31, Try.ntmps31
  go_wp2_with fail
  have n1 : (((w.alloc (.cells zero8.toArray 72)).alloc (.cells zero8.toArray 72)).drew).heap[w.heap.size + 1]? = some (.cells zero8.toArray 72 (0, 0)) := n0
  have A1 : AskAt w g c (((w.alloc (.cells zero8.toArray 72)).alloc (.cells zero8.toArray 72)).drew) := ⟨A0.box, A0.res, A0.note, A0.low.trans (drewN_low _ 1 _)⟩
  generalize ((w.alloc (.cells zero8.toArray 72)).alloc (.cells zero8.toArray 72)) = W at n1 A1 ⊢
  refine wp_region_noPanic ?_
  refine wp_region_held_drew (S := AskAt w g c) (by kernel_rfl) A1 (fun h0 => ?_)
  refine wpAnyH_takeAt (i := 0) (v := ?_) rfl (by kernel_rfl) (by kernel_rfl) (by kernel_rfl) (fun _ _ _ h => h) (Or.inl ⟨by rfl, ?_⟩) h0 ?_
  rotate_left 1
  · intro w' hS; clear hS
    go_simp <;> with_reducible rfl
  try simp only [Act.put, List.setIfInBounds_toArray, List.set_cons_zero, List.set_cons_succ]
  refine wpAnyH_takeAt (i := 1) (v := ?_) rfl (by kernel_rfl) (by kernel_rfl) (by kernel_rfl) (fun _ _ _ h => h) (Or.inl ⟨by rfl, ?_⟩) h0 ?_
  rotate_left 1
  · intro w' hS; clear hS
    go_simp <;> with_reducible rfl
  try simp only [Act.put, List.setIfInBounds_toArray, List.set_cons_zero, List.set_cons_succ]
  refine wpAnyH_takeAt (i := 2) (v := ?_) rfl (by kernel_rfl) (by kernel_rfl) (by kernel_rfl) (fun _ _ _ h => h) (Or.inl ⟨by rfl, ?_⟩) h0 ?_
  rotate_left 1
  · intro w' hS; clear hS
    go_simp <;> with_reducible rfl
  try simp only [Act.put, List.setIfInBounds_toArray, List.set_cons_zero, List.set_cons_succ]
  refine wpAnyH_takeAt (i := 3) (v := ?_) rfl (by kernel_rfl) (by kernel_rfl) (by kernel_rfl) (fun _ _ _ h => h) (Or.inl ⟨by rfl, ?_⟩) h0 ?_
  rotate_left 1
  · intro w' hS; clear hS
    go_simp <;> with_reducible rfl
  try simp only [Act.put, List.setIfInBounds_toArray, List.set_cons_zero, List.set_cons_succ]
  refine wpAnyH_takeAt (i := 4) (v := ?_) rfl (by kernel_rfl) (by kernel_rfl) (by kernel_rfl) (fun _ _ _ h => h) (Or.inl ⟨by rfl, ?_⟩) h0 ?_
  rotate_left 1
  · intro w' hS; clear hS
    go_simp <;> with_reducible rfl
  try simp only [Act.put, List.setIfInBounds_toArray, List.set_cons_zero, List.set_cons_succ]
  refine wpAnyH_takeAt (i := 5) (v := ?_) rfl (by kernel_rfl) (by kernel_rfl) (by kernel_rfl) (fun _ _ _ h => h) (Or.inl ⟨by rfl, ?_⟩) h0 ?_
  rotate_left 1
  · intro w' hS; clear hS
    go_simp <;> with_reducible rfl
  try simp only [Act.put, List.setIfInBounds_toArray, List.set_cons_zero, List.set_cons_succ]
  refine wpAnyH_ready (rs := [6]) (by kernel_rfl) (by simp) (allReady_at rfl (fun K hK => ?_))
  refine step_copy_splice rfl _ _ _ _ rfl 22 Try.underlying32 infoU1 _ _ 8 8 8 22 rfl rfl (w.heap.size + 1) 0 zero8 72 n1 (askL c) (by rw [askL_len]; rfl) (fun _ => ⟨rfl, _, rfl, fun j v hj => ?_⟩) (by rw [askL_len]; decide) (askL_one c) (w.heap.size + 1) W.drew (Below.refl _ _) (Nat.le_refl _) ?_
  · obtain ⟨hj8, rfl⟩ := askL_at c j v hj
    have := A1.box.reg (10 + j) (by omega)
    rw [show (⟨g, 10, none⟩ : Addr).add j = ⟨g, 10 + j, none⟩ by unfold Addr.add; split <;> simp_all]
    exact this
  intro w2 hg2 hb2
  rw [splice_all] at hg2
  have A2 : AskAt w g c w2 := ⟨by unfold BoxC Box; rw [hb2.block g (by have := h.lt; omega)]; exact A1.box, (hb2.block _ (by omega)).trans A1.res, ⟨_, hg2.out⟩, A1.low.trans (hb2.mono (by omega))⟩
  refine hK.out _ _ A2 (fun _ => ?_)
  clear hK K
  try simp only [Act.put, List.setIfInBounds_toArray, List.set_cons_zero, List.set_cons_succ]
  refine wpAnyH_done (by kernel_rfl) ?_ _
  refine NoPanic.normal ?_
  go_wp2_with (first
    | (refine wpList_load_row rfl 72 _ rfl (w.heap.size + 1) rfl _ _ _ _ hg2.out Try.underlying72 rfl (infoKs _) ?_)
    | (refine wpList_store_row rfl 72 _ _ rfl w.heap.size _ rfl rfl _ _ A2.res (infoKs _) (by simp [zero8, askL_len]) (by rw [Array.all_eq_true_iff_forall_mem]; intro v hv; exact askL_one c v (by simpa using hv)) ?_))
  exact bodyPost_ret (results_cell_row (p := 2) (by kernel_rfl) _ _ w.heap.size _ _ _ _ rfl (setRow_heap _ _ _ _ _ _ A2.res) Try.underlying72 rfl (infoKs _)) rfl
    ⟨rfl, below_row A2.low (Nat.le_refl _) _⟩
end Go.Proofs.Ytilphdfobflbiaa
