/-
  A branch: what it answers.
-/
import Derived.Test.YtilphdfobflbiaaCE
namespace Go.Proofs.Ytilphdfobflbiaa
open Go.RowKit Cp Ip
set_option linter.unusedSimpArgs false

def brM (c : Mach) (op rs1 rs2 imm : Int) : Mach := sp c (if takes op (c.x rs1.toNat) (c.x rs2.toNat) = true then c.pc + numb imm else c.pc + (BitVec.ofNat 32 4))
structure BrAt (w : World) (op rd rs1 rs2 imm : Int) (W : World) : Prop where
  box : ∃ r, BoxC W w.heap.size r
  ins : InsAt W (w.heap.size + 1) op rd rs1 rs2 imm
  res : ∃ r, BoxC W (w.heap.size + 2) r
  low : Below w.heap.size w W
theorem BrAt.below {w W W' : World} {op rd rs1 rs2 imm : Int} (h : BrAt w op rd rs1 rs2 imm W) (hb : Below W.heap.size W W') : BrAt w op rd rs1 rs2 imm W' := by
  obtain ⟨r, hr⟩ := h.res
  obtain ⟨r', hr'⟩ := h.box
  exact ⟨⟨r', hr'.below hb⟩, h.ins.below hb, ⟨r, hr.below hb⟩, h.low.trans (hb.mono h.low.size)⟩
theorem BrAt.setp {w W : World} {op rd rs1 rs2 imm : Int} (h : BrAt w op rd rs1 rs2 imm W) (c : Mach) (b : BoxC W w.heap.size c) (Z : BitVec 32) : BrAt w op rd rs1 rs2 imm (W.setCell ⟨w.heap.size, 32, none⟩ (.int .u32 (Z.toNat : Int))) := by
  obtain ⟨r, hr⟩ := h.res
  exact ⟨⟨_, b.setp Z⟩, insAt_other h.ins _ _ (by simp), ⟨r, hr.other _ _ (by simp)⟩, below_cell1 h.low (Nat.le_refl _) _ _⟩
theorem StepAt.br {w W : World} {c : Mach} {op rd rs1 rs2 imm : Int} (h : StepAt w c op rd rs1 rs2 imm W) : BrAt w op rd rs1 rs2 imm W := ⟨⟨c, h.box⟩, h.ins, h.res, h.low⟩

set_option maxRecDepth 100000 in
set_option maxHeartbeats 4000000 in
theorem branch_any (c : Mach) (op rd : Int) (i j : Nat) (imm : Int) (hop : 4 ≤ op ∧ op ≤ 9) (hi : i < 32) (hj : j < 32) (w : World) :
    Calls Try.prog 72 #[.agg (cells c), .agg #[.int .i64 op, .int .i64 rd, .int .i64 (i : Int), .int .i64 (j : Int), .int .i64 imm]] w fun e w' => e = .returned (.agg (cells (brM c op i j imm))) ∧ Below w.heap.size w w' := by
  have hz := zeroC
  have D0 := (doesAt_start w c op rd i j imm).step
  have hi2 : (i : Int) < 32 := by omega
  have hj2 : (j : Int) < 32 := by omega
  obtain ⟨Z, hE, hE2, HZ⟩ := bump c.pc (numb imm)
  obtain ⟨Q, hQ, HQ⟩ := four c.pc
  obtain ⟨x0, x1, x2, x3, x4, x5⟩ := D0.ins
  have q1 := D0.box.reg i hi
  have q2 := D0.box.reg j hj
  go_enter Try.func72, Try.ntmps72
  go_wp2_with fail
  go_quiet ((go_at_call 96; exact Calls.quiet_of_same (taken_any op hop _ _ _)))
  have D1 := D0.below (drewN_low _ nq _)
  clear x0 x1 x2 x3 x4 x5 q1 q2 D0
  generalize World.drewN _ nq = W1 at D1 ⊢
  cases hT : takes op (c.x i) (c.x j) with
  | true =>
    have HT : Hid (takes op (c.x i) (c.x j) = true) := hT
    clear hT
    go_wp2_with fail
    have h9 := D1.drew.br
    have b0 := D1.drew.box
    refine wp_region_noPanic ?_
    refine wp_region_held_drew (S := BrAt w op rd i j imm) (by kernel_rfl) h9 (fun h0 => ?_)
    refine wpAnyH_takeAt (i := 0) (v := ?_) rfl (by kernel_rfl) (by kernel_rfl) (by kernel_rfl) (fun _ _ _ h => h) (Or.inl ⟨by rfl, ?_⟩) h0 ?_
    rotate_left 1
    · intro w' hS; have a0 := hS.ins.c0; have a1 := hS.ins.c1; have a2 := hS.ins.c2; have a3 := hS.ins.c3; have a4 := hS.ins.c4; clear hS
      go_simp <;> with_reducible rfl
    try simp only [Act.put, List.setIfInBounds_toArray, List.set_cons_zero, List.set_cons_succ]
    refine wpAnyH_takeAt (i := 2) (v := ?_) rfl (by kernel_rfl) (by kernel_rfl) (by kernel_rfl) (fun _ _ _ h => h) (Or.inl ⟨by rfl, ?_⟩) h0 ?_
    rotate_left 1
    · intro w' hS; have a0 := hS.ins.c0; have a1 := hS.ins.c1; have a2 := hS.ins.c2; have a3 := hS.ins.c3; have a4 := hS.ins.c4; clear hS
      go_simp <;> with_reducible rfl
    try simp only [Act.put, List.setIfInBounds_toArray, List.set_cons_zero, List.set_cons_succ]
    refine wpAnyH_ready (rs := [1, 3]) (by kernel_rfl) (by simp) (AllReadyH.cons (at_drop rfl) (fun K hK => ?_) (allReady_at rfl (fun K hK => ?_)))
    · -- the address first
      have p8 := b0.at
      go_simp
      have h2 := h0
      refine hK.out _ _ h2 (fun _ => ?_)
      clear hK K
      try simp only [Act.put, List.setIfInBounds_toArray, List.set_cons_zero, List.set_cons_succ]
      refine wpAnyH_ready (rs := [3]) (by kernel_rfl) (by simp) (allReady_at rfl (fun K hK => ?_))
      go_simp
      refine (cnumber_any _ _ _ _ _ _).mono ?_
      rintro e w3 ⟨rfl, hb3⟩
      dsimp only
      have b3 := b0.below hb3
      have h3 : BrAt w op rd i j imm w3 := h2.below hb3
      refine hK.out _ _ h3 (fun _ => ?_)
      clear hK K
      try simp only [Act.put, List.setIfInBounds_toArray, List.set_cons_zero, List.set_cons_succ]
      refine wpAnyH_takeAt (i := 4) (v := .int .u32 (Z.toNat : Int)) rfl (by kernel_rfl) (by kernel_rfl) (by kernel_rfl) (fun _ _ _ h => h) (Or.inl ⟨by rfl, ?_⟩) h3 ?_
      · intro w' hS; clear hS
        go_simp
      try simp only [Act.put, List.setIfInBounds_toArray, List.set_cons_zero, List.set_cons_succ]
      refine wpAnyH_takeAt (i := 5) (v := ?_) rfl (by kernel_rfl) (by kernel_rfl) (by kernel_rfl) (fun _ _ _ h => h) (Or.inl ⟨by rfl, ?_⟩) h3 ?_
      rotate_left 1
      · intro w' hS; clear hS
        go_simp <;> with_reducible rfl
      try simp only [Act.put, List.setIfInBounds_toArray, List.set_cons_zero, List.set_cons_succ]
      refine wpAnyH_ready (rs := [6]) (by kernel_rfl) (by simp) (allReady_at rfl (fun K hK => ?_))
      have p9 := b3.at
      have f9 := b3.free 32
      go_simp
      have h4 := h3.setp c b3 Z
      refine hK.out _ _ h4 (fun _ => ?_)
      clear hK K
      try simp only [Act.put, List.setIfInBounds_toArray, List.set_cons_zero, List.set_cons_succ]
      refine wpAnyH_done (by kernel_rfl) ?_ _
      refine NoPanic.normal ?_
      have b4 := b3.setp Z
      obtain ⟨r, hr⟩ := h4.res
      go_wp2_with (first
        | (refine wpList_load_row rfl 25 _ rfl w.heap.size rfl _ _ _ _ b4 Try.underlying25 rfl (infoCs _) ?_)
        | (refine wpList_store_row rfl 25 _ _ rfl (w.heap.size + 2) _ rfl rfl _ _ hr (infoCs _) (cells_same _ _) (cells_one _) ?_))
      have e9 : sp c Z = brM c op i j imm := by unfold brM; rw [Int.toNat_natCast, Int.toNat_natCast, HT.out, HZ.out]; rfl
      exact bodyPost_ret (results_cell_row (p := 4) (by kernel_rfl) _ _ (w.heap.size + 2) _ _ _ _ rfl (hr.setRow _) Try.underlying25 rfl (infoCs _)) rfl
        ⟨by rw [e9], below_row h4.low (by omega) _⟩
    · -- the number first
      go_simp
      refine (cnumber_any _ _ _ _ _ _).mono ?_
      rintro e w3 ⟨rfl, hb3⟩
      dsimp only
      have b2 := b0.below hb3
      have h2 : BrAt w op rd i j imm w3 := h0.below hb3
      refine hK.out _ _ h2 (fun _ => ?_)
      clear hK K
      try simp only [Act.put, List.setIfInBounds_toArray, List.set_cons_zero, List.set_cons_succ]
      refine wpAnyH_ready (rs := [1]) (by kernel_rfl) (by simp) (allReady_at rfl (fun K hK => ?_))
      have p8 := b2.at
      go_simp
      have b3 := b2
      have h3 := h2
      refine hK.out _ _ h3 (fun _ => ?_)
      clear hK K
      try simp only [Act.put, List.setIfInBounds_toArray, List.set_cons_zero, List.set_cons_succ]
      refine wpAnyH_takeAt (i := 4) (v := .int .u32 (Z.toNat : Int)) rfl (by kernel_rfl) (by kernel_rfl) (by kernel_rfl) (fun _ _ _ h => h) (Or.inl ⟨by rfl, ?_⟩) h3 ?_
      · intro w' hS; clear hS
        go_simp
      try simp only [Act.put, List.setIfInBounds_toArray, List.set_cons_zero, List.set_cons_succ]
      refine wpAnyH_takeAt (i := 5) (v := ?_) rfl (by kernel_rfl) (by kernel_rfl) (by kernel_rfl) (fun _ _ _ h => h) (Or.inl ⟨by rfl, ?_⟩) h3 ?_
      rotate_left 1
      · intro w' hS; clear hS
        go_simp <;> with_reducible rfl
      try simp only [Act.put, List.setIfInBounds_toArray, List.set_cons_zero, List.set_cons_succ]
      refine wpAnyH_ready (rs := [6]) (by kernel_rfl) (by simp) (allReady_at rfl (fun K hK => ?_))
      have p9 := b3.at
      have f9 := b3.free 32
      go_simp
      have h4 := h3.setp c b3 Z
      refine hK.out _ _ h4 (fun _ => ?_)
      clear hK K
      try simp only [Act.put, List.setIfInBounds_toArray, List.set_cons_zero, List.set_cons_succ]
      refine wpAnyH_done (by kernel_rfl) ?_ _
      refine NoPanic.normal ?_
      have b4 := b3.setp Z
      obtain ⟨r, hr⟩ := h4.res
      go_wp2_with (first
        | (refine wpList_load_row rfl 25 _ rfl w.heap.size rfl _ _ _ _ b4 Try.underlying25 rfl (infoCs _) ?_)
        | (refine wpList_store_row rfl 25 _ _ rfl (w.heap.size + 2) _ rfl rfl _ _ hr (infoCs _) (cells_same _ _) (cells_one _) ?_))
      have e9 : sp c Z = brM c op i j imm := by unfold brM; rw [Int.toNat_natCast, Int.toNat_natCast, HT.out, HZ.out]; rfl
      exact bodyPost_ret (results_cell_row (p := 4) (by kernel_rfl) _ _ (w.heap.size + 2) _ _ _ _ rfl (hr.setRow _) Try.underlying25 rfl (infoCs _)) rfl
        ⟨by rw [e9], below_row h4.low (by omega) _⟩
  | false =>
    have HT : Hid (takes op (c.x i) (c.x j) = false) := hT
    clear hT
    have p9 := D1.box.at
    have f9 := D1.box.free 32
    obtain ⟨r, hr⟩ := D1.res
    have b4 := D1.box.setp Q
    have hr4 := hr.other ⟨w.heap.size, 32, none⟩ (.int .u32 (Q.toNat : Int)) (by simp)
    go_wp2_with (first
      | (refine wpList_load_row rfl 25 _ rfl w.heap.size rfl _ _ _ _ b4 Try.underlying25 rfl (infoCs _) ?_)
      | (refine wpList_store_row rfl 25 _ _ rfl (w.heap.size + 2) _ rfl rfl _ _ hr4 (infoCs _) (cells_same _ _) (cells_one _) ?_))
    have e9 : sp c Q = brM c op i j imm := by unfold brM; rw [Int.toNat_natCast, Int.toNat_natCast, HT.out, HQ.out]; rfl
    exact bodyPost_ret (results_cell_row (p := 4) (by kernel_rfl) _ _ (w.heap.size + 2) _ _ _ _ rfl (hr4.setRow _) Try.underlying25 rfl (infoCs _)) rfl
      ⟨by rw [e9], below_row (below_cell1 D1.low (Nat.le_refl _) _ _) (by omega) _⟩
end Go.Proofs.Ytilphdfobflbiaa
