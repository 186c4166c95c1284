/-
  The jumps.
  A branch: what it answers.
  A load or a store on a machine over a memory: width, access.
-/

import Derived.Test.YtilphdfobflbiaaGreatZe
import Derived.Test.YtilphdfobflbiaaGreatZk
namespace Go.Proofs.YtilphdfobflbiaaGreat
open Go.RowKit Cp Ip
set_option linter.unusedSimpArgs false

/-- While notPlain or access is at work: the machine, the instruction, the answer's box. -/
structure StepAt (w : World) (c : Mach) (op rd rs1 rs2 imm : Int) (W : World) : Prop where
  box : BoxC W w.heap.size c
  ins : InsAt W (w.heap.size + 1) op rd rs1 rs2 imm
  res : ∃ r, BoxC W (w.heap.size + 2) r
  low : Below w.heap.size w W
theorem StepAt.below {w W W' : World} {c : Mach} {op rd rs1 rs2 imm : Int} (h : StepAt w c op rd rs1 rs2 imm W) (hb : Below W.heap.size W W') : StepAt w c op rd rs1 rs2 imm W' := by
  obtain ⟨r, hr⟩ := h.res
  exact ⟨h.box.below hb, h.ins.below hb, ⟨r, hr.below hb⟩, h.low.trans (hb.mono h.low.size)⟩
theorem StepAt.drew {w W : World} {c : Mach} {op rd rs1 rs2 imm : Int} (h : StepAt w c op rd rs1 rs2 imm W) : StepAt w c op rd rs1 rs2 imm W.drew := h.below (drewN_low W 1 _)
theorem insAt_row {w : World} {g : Nat} {op rd rs1 rs2 imm : Int} (h : InsAt w g op rd rs1 rs2 imm) (k : Nat) (cs : Array Value) (hn : g ≠ k) : InsAt (w.setRow k cs) g op rd rs1 rs2 imm := by
  have q : ∀ o, (w.setRow k cs).cell? ⟨g, o, none⟩ = w.cell? ⟨g, o, none⟩ := fun o => cell_setRow_other w k cs _ hn
  exact ⟨(q _).trans h.c0, (q _).trans h.c1, (q _).trans h.c2, (q _).trans h.c3, (q _).trans h.c4, by simpa using h.lt⟩
theorem StepAt.row {w W : World} {c : Mach} {op rd rs1 rs2 imm : Int} (h : StepAt w c op rd rs1 rs2 imm W) (d : Mach) : StepAt w c op rd rs1 rs2 imm (W.setRow (w.heap.size + 2) (cells d)) := by
  obtain ⟨r, hr⟩ := h.res
  exact ⟨h.box.otherRow _ _ (by omega), insAt_row h.ins _ _ (by omega), ⟨d, hr.setRow d⟩, below_row h.low (by omega) _⟩
theorem DoesAt.step {w W : World} {c r : Mach} {op rd rs1 rs2 imm : Int} (h : DoesAt w c r op rd rs1 rs2 imm W) : StepAt w c op rd rs1 rs2 imm W := ⟨h.box, h.ins, ⟨r, h.res⟩, h.low⟩
theorem bump (p q : BitVec 32) : ∃ Z : BitVec 32, ((p.toNat : Int) + (q.toNat : Int)) % 4294967296 = (Z.toNat : Int) ∧ IntKind.u32.wrap ((p.toNat : Int) + (q.toNat : Int)) = (Z.toNat : Int) ∧ Hid (Z = p + q) := ⟨p + q, Wd.add_ p q, Wd.add_ p q, rfl⟩

set_option maxRecDepth 100000 in
set_option maxHeartbeats 4000000 in
theorem notPlain_jal (c : Mach) (m : Value) (rd rs1 rs2 imm : Int) (hrd0 : 0 ≤ rd) (hrd1 : rd < 32) (w : World) :
    Calls Tryz.prog 21 #[.agg (cells c), m, .agg #[.int .i64 2, .int .i64 rd, .int .i64 rs1, .int .i64 rs2, .int .i64 imm]] w fun e w' => e = .returned (.tuple #[.agg (cells (jmp c rd (c.pc + numb imm))), .int .i64 0]) ∧ Below w.heap.size w w' := by
  have hz := zeroC
  obtain ⟨Z, hE, hE2, HZ⟩ := bump c.pc (numb imm)
  have D0 := (doesAt_start w c 2 rd rs1 rs2 imm).step
  go_enter Tryz.func21, Tryz.ntmps21
  go_wp2_with fail
  refine wp_region_noPanic ?_
  refine wp_region_held_drew (S := StepAt w c 2 rd rs1 rs2 imm) (by kernel_rfl) D0.drew (fun h0 => ?_)
  refine wpAnyH_takeAt (i := 0) (v := .agg (cells c)) rfl (by kernel_rfl) (by kernel_rfl) (by kernel_rfl) (fun _ _ _ h => h) (yieldsIf_row (by rfl) _ _ rfl w.heap.size rfl _ _ _ _ (fun _ h => h.box) Tryz.underlying25 rfl (infoCs _)) h0 ?_
  simp only [Act.put, List.setIfInBounds_toArray, List.set_cons_zero, List.set_cons_succ]
  refine wpAnyH_takeAt (i := 1) (v := ?_) rfl (by kernel_rfl) (by kernel_rfl) (by kernel_rfl) (fun _ _ _ h => h) (Or.inl ⟨by rfl, ?_⟩) h0 ?_
  rotate_left 1
  · intro w' hS; have a0 := hS.ins.c0; have a1 := hS.ins.c1; have a2 := hS.ins.c2; have a3 := hS.ins.c3; have a4 := hS.ins.c4; have a5 := hS.box.at; clear hS
    go_simp <;> with_reducible rfl
  try simp only [Act.put, List.setIfInBounds_toArray, List.set_cons_zero, List.set_cons_succ]
  refine wpAnyH_takeAt (i := 2) (v := ?_) rfl (by kernel_rfl) (by kernel_rfl) (by kernel_rfl) (fun _ _ _ h => h) (Or.inl ⟨by rfl, ?_⟩) h0 ?_
  rotate_left 1
  · intro w' hS; have a0 := hS.ins.c0; have a1 := hS.ins.c1; have a2 := hS.ins.c2; have a3 := hS.ins.c3; have a4 := hS.ins.c4; have a5 := hS.box.at; clear hS
    go_simp <;> with_reducible rfl
  try simp only [Act.put, List.setIfInBounds_toArray, List.set_cons_zero, List.set_cons_succ]
  refine wpAnyH_takeAt (i := 3) (v := ?_) rfl (by kernel_rfl) (by kernel_rfl) (by kernel_rfl) (fun _ _ _ h => h) (Or.inl ⟨by rfl, ?_⟩) h0 ?_
  rotate_left 1
  · intro w' hS; have a0 := hS.ins.c0; have a1 := hS.ins.c1; have a2 := hS.ins.c2; have a3 := hS.ins.c3; have a4 := hS.ins.c4; have a5 := hS.box.at; clear hS
    go_simp <;> with_reducible rfl
  try simp only [Act.put, List.setIfInBounds_toArray, List.set_cons_zero, List.set_cons_succ]
  refine wpAnyH_takeAt (i := 4) (v := ?_) rfl (by kernel_rfl) (by kernel_rfl) (by kernel_rfl) (fun _ _ _ h => h) (Or.inl ⟨by rfl, ?_⟩) h0 ?_
  rotate_left 1
  · intro w' hS; have a0 := hS.ins.c0; have a1 := hS.ins.c1; have a2 := hS.ins.c2; have a3 := hS.ins.c3; have a4 := hS.ins.c4; have a5 := hS.box.at; clear hS
    go_simp <;> with_reducible rfl
  try simp only [Act.put, List.setIfInBounds_toArray, List.set_cons_zero, List.set_cons_succ]
  refine wpAnyH_takeAt (i := 5) (v := ?_) rfl (by kernel_rfl) (by kernel_rfl) (by kernel_rfl) (fun _ _ _ h => h) (Or.inl ⟨by rfl, ?_⟩) h0 ?_
  rotate_left 1
  · intro w' hS; have a0 := hS.ins.c0; have a1 := hS.ins.c1; have a2 := hS.ins.c2; have a3 := hS.ins.c3; have a4 := hS.ins.c4; have a5 := hS.box.at; clear hS
    go_simp <;> with_reducible rfl
  try simp only [Act.put, List.setIfInBounds_toArray, List.set_cons_zero, List.set_cons_succ]
  refine wpAnyH_ready (rs := [6]) (by kernel_rfl) (by simp) (allReady_at rfl (fun K hK => ?_))
  go_simp
  refine (cnumber_any _ _ _ _ _ _).mono ?_
  rintro e w1 ⟨rfl, hb1⟩
  dsimp only
  have h1 : StepAt w c 2 rd rs1 rs2 imm w1 := h0.below hb1
  refine hK.out _ _ h1 (fun _ => ?_)
  clear hK K
  try simp only [Act.put, List.setIfInBounds_toArray, List.set_cons_zero, List.set_cons_succ]
  refine wpAnyH_takeAt (i := 7) (v := .int .u32 (Z.toNat : Int)) rfl (by kernel_rfl) (by kernel_rfl) (by kernel_rfl) (fun _ _ _ h => h) (Or.inl ⟨by rfl, ?_⟩) h1 ?_
  · intro w' hS; clear hS
    go_simp
  try simp only [Act.put, List.setIfInBounds_toArray, List.set_cons_zero, List.set_cons_succ]
  refine wpAnyH_ready (rs := [8]) (by kernel_rfl) (by simp) (allReady_at rfl (fun K hK => ?_))
  go_simp
  refine (jump_any c rd hrd0 hrd1 Z _).mono ?_
  rintro e w2 ⟨rfl, hb2⟩
  dsimp only
  have h2 : StepAt w c 2 rd rs1 rs2 imm w2 := h1.below hb2
  refine hK.out _ _ h2 (fun _ => ?_)
  clear hK K
  try simp only [Act.put, List.setIfInBounds_toArray, List.set_cons_zero, List.set_cons_succ]
  obtain ⟨r, hr⟩ := h2.res
  refine wpAnyH_ready (rs := [9]) (by kernel_rfl) (by simp) (allReady_at rfl (fun K hK => ?_))
  rw [if_pos (by rfl)]
  refine wp_store_row 25 _ _ rfl (w.heap.size + 2) (cells (jmp c rd Z)) rfl rfl _ _ hr (infoCs _) (cells_same _ _) (cells_one _) ?_
  have h3 := h2.row (jmp c rd Z)
  refine hK.out _ _ h3 (fun _ => ?_)
  clear hK K
  try simp only [Act.put, List.setIfInBounds_toArray, List.set_cons_zero, List.set_cons_succ]
  refine wpAnyH_takeAt (i := 10) (v := ?_) rfl (by kernel_rfl) (by kernel_rfl) (by kernel_rfl) (fun _ _ _ h => h) (Or.inl ⟨by rfl, ?_⟩) h3 ?_
  rotate_left 1
  · intro w' hS; clear hS
    go_simp <;> with_reducible rfl
  try simp only [Act.put, List.setIfInBounds_toArray, List.set_cons_zero, List.set_cons_succ]
  refine wpAnyH_done (by kernel_rfl) ?_ _
  refine NoPanic.normal ?_
  go_wp2_with fail
  have e9 : jmp c rd Z = jmp c rd (c.pc + numb imm) := by rw [HZ.out]
  rw [e9]
  exact bodyPost_ret (results_row_tmp (p := 6) (u := 7) (by kernel_rfl) _ _ (w.heap.size + 2) _ _ _ _ rfl (hr.setRow _) Tryz.underlying25 rfl (infoCs _)) rfl
    ⟨rfl, below_row h2.low (by omega) _⟩

set_option maxRecDepth 100000 in
set_option maxHeartbeats 4000000 in
theorem notPlain_jalr (c : Mach) (m : Value) (rd : Int) (i : Nat) (rs2 imm : Int) (hrd0 : 0 ≤ rd) (hrd1 : rd < 32) (hi : i < 32) (w : World) :
    Calls Tryz.prog 21 #[.agg (cells c), m, .agg #[.int .i64 3, .int .i64 rd, .int .i64 i, .int .i64 rs2, .int .i64 imm]] w fun e w' => e = .returned (.tuple #[.agg (cells (jmp c rd ((c.x i + numb imm) &&& ~~~ (BitVec.ofNat 32 1)))), .int .i64 0]) ∧ Below w.heap.size w w' := by
  have hz := zeroC
  have hi2 : (i : Int) < 32 := by omega
  obtain ⟨Z, hE, hE2, HZ⟩ := bump (c.x i) (numb imm)
  obtain ⟨Y, hY, HY⟩ : ∃ Y : BitVec 32, bits .andNot .u32 (Z.toNat : Int) 1 = (Y.toNat : Int) ∧ Hid (Y = Z &&& ~~~ (BitVec.ofNat 32 1)) := ⟨_, Wd.andNot_ Z (BitVec.ofNat 32 1), rfl⟩
  have D0 := (doesAt_start w c 3 rd i rs2 imm).step
  go_enter Tryz.func21, Tryz.ntmps21
  go_wp2_with fail
  refine wp_region_noPanic ?_
  refine wp_region_held_drew (S := StepAt w c 3 rd i rs2 imm) (by kernel_rfl) D0.drew (fun h0 => ?_)
  refine wpAnyH_takeAt (i := 0) (v := .agg (cells c)) rfl (by kernel_rfl) (by kernel_rfl) (by kernel_rfl) (fun _ _ _ h => h) (yieldsIf_row (by rfl) _ _ rfl w.heap.size rfl _ _ _ _ (fun _ h => h.box) Tryz.underlying25 rfl (infoCs _)) h0 ?_
  simp only [Act.put, List.setIfInBounds_toArray, List.set_cons_zero, List.set_cons_succ]
  refine wpAnyH_takeAt (i := 1) (v := ?_) rfl (by kernel_rfl) (by kernel_rfl) (by kernel_rfl) (fun _ _ _ h => h) (Or.inl ⟨by rfl, ?_⟩) h0 ?_
  rotate_left 1
  · intro w' hS; have a0 := hS.ins.c0; have a1 := hS.ins.c1; have a2 := hS.ins.c2; have a3 := hS.ins.c3; have a4 := hS.ins.c4; have a5 := hS.box.reg i hi; clear hS
    go_simp <;> with_reducible rfl
  try simp only [Act.put, List.setIfInBounds_toArray, List.set_cons_zero, List.set_cons_succ]
  refine wpAnyH_takeAt (i := 2) (v := ?_) rfl (by kernel_rfl) (by kernel_rfl) (by kernel_rfl) (fun _ _ _ h => h) (Or.inl ⟨by rfl, ?_⟩) h0 ?_
  rotate_left 1
  · intro w' hS; have a0 := hS.ins.c0; have a1 := hS.ins.c1; have a2 := hS.ins.c2; have a3 := hS.ins.c3; have a4 := hS.ins.c4; have a5 := hS.box.reg i hi; clear hS
    go_simp <;> with_reducible rfl
  try simp only [Act.put, List.setIfInBounds_toArray, List.set_cons_zero, List.set_cons_succ]
  refine wpAnyH_takeAt (i := 3) (v := ?_) rfl (by kernel_rfl) (by kernel_rfl) (by kernel_rfl) (fun _ _ _ h => h) (Or.inl ⟨by rfl, ?_⟩) h0 ?_
  rotate_left 1
  · intro w' hS; have a0 := hS.ins.c0; have a1 := hS.ins.c1; have a2 := hS.ins.c2; have a3 := hS.ins.c3; have a4 := hS.ins.c4; have a5 := hS.box.reg i hi; clear hS
    go_simp <;> with_reducible rfl
  try simp only [Act.put, List.setIfInBounds_toArray, List.set_cons_zero, List.set_cons_succ]
  refine wpAnyH_takeAt (i := 4) (v := ?_) rfl (by kernel_rfl) (by kernel_rfl) (by kernel_rfl) (fun _ _ _ h => h) (Or.inl ⟨by rfl, ?_⟩) h0 ?_
  rotate_left 1
  · intro w' hS; have a0 := hS.ins.c0; have a1 := hS.ins.c1; have a2 := hS.ins.c2; have a3 := hS.ins.c3; have a4 := hS.ins.c4; have a5 := hS.box.reg i hi; clear hS
    go_simp <;> with_reducible rfl
  try simp only [Act.put, List.setIfInBounds_toArray, List.set_cons_zero, List.set_cons_succ]
  refine wpAnyH_takeAt (i := 5) (v := ?_) rfl (by kernel_rfl) (by kernel_rfl) (by kernel_rfl) (fun _ _ _ h => h) (Or.inl ⟨by rfl, ?_⟩) h0 ?_
  rotate_left 1
  · intro w' hS; have a0 := hS.ins.c0; have a1 := hS.ins.c1; have a2 := hS.ins.c2; have a3 := hS.ins.c3; have a4 := hS.ins.c4; have a5 := hS.box.reg i hi; clear hS
    go_simp <;> with_reducible rfl
  try simp only [Act.put, List.setIfInBounds_toArray, List.set_cons_zero, List.set_cons_succ]
  refine wpAnyH_takeAt (i := 6) (v := ?_) rfl (by kernel_rfl) (by kernel_rfl) (by kernel_rfl) (fun _ _ _ h => h) (Or.inl ⟨by rfl, ?_⟩) h0 ?_
  rotate_left 1
  · intro w' hS; have a0 := hS.ins.c0; have a1 := hS.ins.c1; have a2 := hS.ins.c2; have a3 := hS.ins.c3; have a4 := hS.ins.c4; have a5 := hS.box.reg i hi; clear hS
    go_simp <;> with_reducible rfl
  try simp only [Act.put, List.setIfInBounds_toArray, List.set_cons_zero, List.set_cons_succ]
  refine wpAnyH_takeAt (i := 7) (v := ?_) rfl (by kernel_rfl) (by kernel_rfl) (by kernel_rfl) (fun _ _ _ h => h) (Or.inl ⟨by rfl, ?_⟩) h0 ?_
  rotate_left 1
  · intro w' hS; have a0 := hS.ins.c0; have a1 := hS.ins.c1; have a2 := hS.ins.c2; have a3 := hS.ins.c3; have a4 := hS.ins.c4; have a5 := hS.box.reg i hi; clear hS
    go_simp <;> with_reducible rfl
  try simp only [Act.put, List.setIfInBounds_toArray, List.set_cons_zero, List.set_cons_succ]
  refine wpAnyH_takeAt (i := 8) (v := ?_) rfl (by kernel_rfl) (by kernel_rfl) (by kernel_rfl) (fun _ _ _ h => h) (Or.inl ⟨by rfl, ?_⟩) h0 ?_
  rotate_left 1
  · intro w' hS; have a0 := hS.ins.c0; have a1 := hS.ins.c1; have a2 := hS.ins.c2; have a3 := hS.ins.c3; have a4 := hS.ins.c4; have a5 := hS.box.reg i hi; clear hS
    go_simp <;> with_reducible rfl
  try simp only [Act.put, List.setIfInBounds_toArray, List.set_cons_zero, List.set_cons_succ]
  refine wpAnyH_ready (rs := [9]) (by kernel_rfl) (by simp) (allReady_at rfl (fun K hK => ?_))
  go_simp
  refine (cnumber_any _ _ _ _ _ _).mono ?_
  rintro e w1 ⟨rfl, hb1⟩
  dsimp only
  have h1 : StepAt w c 3 rd i rs2 imm w1 := h0.below hb1
  refine hK.out _ _ h1 (fun _ => ?_)
  clear hK K
  try simp only [Act.put, List.setIfInBounds_toArray, List.set_cons_zero, List.set_cons_succ]
  refine wpAnyH_takeAt (i := 10) (v := .int .u32 (Z.toNat : Int)) rfl (by kernel_rfl) (by kernel_rfl) (by kernel_rfl) (fun _ _ _ h => h) (Or.inl ⟨by rfl, ?_⟩) h1 ?_
  · intro w' hS; clear hS
    go_simp
  try simp only [Act.put, List.setIfInBounds_toArray, List.set_cons_zero, List.set_cons_succ]
  refine wpAnyH_takeAt (i := 11) (v := .int .u32 (Y.toNat : Int)) rfl (by kernel_rfl) (by kernel_rfl) (by kernel_rfl) (fun _ _ _ h => h) (Or.inl ⟨by rfl, ?_⟩) h1 ?_
  · intro w' hS; clear hS
    go_simp
  try simp only [Act.put, List.setIfInBounds_toArray, List.set_cons_zero, List.set_cons_succ]
  refine wpAnyH_ready (rs := [12]) (by kernel_rfl) (by simp) (allReady_at rfl (fun K hK => ?_))
  go_simp
  refine (jump_any c rd hrd0 hrd1 Y _).mono ?_
  rintro e w2 ⟨rfl, hb2⟩
  dsimp only
  have h2 : StepAt w c 3 rd i rs2 imm w2 := h1.below hb2
  refine hK.out _ _ h2 (fun _ => ?_)
  clear hK K
  try simp only [Act.put, List.setIfInBounds_toArray, List.set_cons_zero, List.set_cons_succ]
  obtain ⟨r, hr⟩ := h2.res
  refine wpAnyH_ready (rs := [13]) (by kernel_rfl) (by simp) (allReady_at rfl (fun K hK => ?_))
  rw [if_pos (by rfl)]
  refine wp_store_row 25 _ _ rfl (w.heap.size + 2) (cells (jmp c rd Y)) rfl rfl _ _ hr (infoCs _) (cells_same _ _) (cells_one _) ?_
  have h3 := h2.row (jmp c rd Y)
  refine hK.out _ _ h3 (fun _ => ?_)
  clear hK K
  try simp only [Act.put, List.setIfInBounds_toArray, List.set_cons_zero, List.set_cons_succ]
  refine wpAnyH_takeAt (i := 14) (v := ?_) rfl (by kernel_rfl) (by kernel_rfl) (by kernel_rfl) (fun _ _ _ h => h) (Or.inl ⟨by rfl, ?_⟩) h3 ?_
  rotate_left 1
  · intro w' hS; clear hS
    go_simp <;> with_reducible rfl
  try simp only [Act.put, List.setIfInBounds_toArray, List.set_cons_zero, List.set_cons_succ]
  refine wpAnyH_done (by kernel_rfl) ?_ _
  refine NoPanic.normal ?_
  go_wp2_with fail
  have e9 : jmp c rd Y = jmp c rd ((c.x i + numb imm) &&& ~~~ (BitVec.ofNat 32 1)) := by rw [HY.out, HZ.out]
  rw [e9]
  exact bodyPost_ret (results_row_tmp (p := 6) (u := 7) (by kernel_rfl) _ _ (w.heap.size + 2) _ _ _ _ rfl (hr.setRow _) Tryz.underlying25 rfl (infoCs _)) rfl
    ⟨rfl, below_row h2.low (by omega) _⟩
end Go.Proofs.YtilphdfobflbiaaGreat
namespace Go.Proofs.YtilphdfobflbiaaGreat
open Go.RowKit Cp Ip
set_option linter.unusedSimpArgs false

def brM (c : Mach) (op rs1 rs2 imm : Int) : Mach := sp c (if takes op (c.x rs1.toNat) (c.x rs2.toNat) = true then c.pc + numb imm else c.pc + (BitVec.ofNat 32 4))
structure BrAt (w : World) (op rd rs1 rs2 imm : Int) (W : World) : Prop where
  box : ∃ r, BoxC W w.heap.size r
  ins : InsAt W (w.heap.size + 1) op rd rs1 rs2 imm
  res : ∃ r, BoxC W (w.heap.size + 2) r
  low : Below w.heap.size w W
theorem BrAt.below {w W W' : World} {op rd rs1 rs2 imm : Int} (h : BrAt w op rd rs1 rs2 imm W) (hb : Below W.heap.size W W') : BrAt w op rd rs1 rs2 imm W' := by
  obtain ⟨r, hr⟩ := h.res
  obtain ⟨r', hr'⟩ := h.box
  exact ⟨⟨r', hr'.below hb⟩, h.ins.below hb, ⟨r, hr.below hb⟩, h.low.trans (hb.mono h.low.size)⟩
theorem BrAt.setp {w W : World} {op rd rs1 rs2 imm : Int} (h : BrAt w op rd rs1 rs2 imm W) (c : Mach) (b : BoxC W w.heap.size c) (Z : BitVec 32) : BrAt w op rd rs1 rs2 imm (W.setCell ⟨w.heap.size, 32, none⟩ (.int .u32 (Z.toNat : Int))) := by
  obtain ⟨r, hr⟩ := h.res
  exact ⟨⟨_, b.setp Z⟩, insAt_other h.ins _ _ (by simp), ⟨r, hr.other _ _ (by simp)⟩, below_cell1 h.low (Nat.le_refl _) _ _⟩
theorem StepAt.br {w W : World} {c : Mach} {op rd rs1 rs2 imm : Int} (h : StepAt w c op rd rs1 rs2 imm W) : BrAt w op rd rs1 rs2 imm W := ⟨⟨c, h.box⟩, h.ins, h.res, h.low⟩

set_option maxRecDepth 100000 in
set_option maxHeartbeats 4000000 in
theorem branch_any (c : Mach) (op rd : Int) (i j : Nat) (imm : Int) (hop : 4 ≤ op ∧ op ≤ 9) (hi : i < 32) (hj : j < 32) (w : World) :
    Calls Tryz.prog 46 #[.agg (cells c), .agg #[.int .i64 op, .int .i64 rd, .int .i64 (i : Int), .int .i64 (j : Int), .int .i64 imm]] w fun e w' => e = .returned (.agg (cells (brM c op i j imm))) ∧ Below w.heap.size w w' := by
  have hz := zeroC
  have D0 := (doesAt_start w c op rd i j imm).step
  have hi2 : (i : Int) < 32 := by omega
  have hj2 : (j : Int) < 32 := by omega
  obtain ⟨Z, hE, hE2, HZ⟩ := bump c.pc (numb imm)
  obtain ⟨Q, hQ, HQ⟩ := four c.pc
  obtain ⟨x0, x1, x2, x3, x4, x5⟩ := D0.ins
  have q1 := D0.box.reg i hi
  have q2 := D0.box.reg j hj
  go_enter Tryz.func46, Tryz.ntmps46
  go_wp2_with fail
  go_quiet ((go_at_call 75; exact Calls.quiet_of_same (taken_any op hop _ _ _)))
  have D1 := D0.below (drewN_low _ nq _)
  clear x0 x1 x2 x3 x4 x5 q1 q2 D0
  generalize World.drewN _ nq = W1 at D1 ⊢
  cases hT : takes op (c.x i) (c.x j) with
  | true =>
    have HT : Hid (takes op (c.x i) (c.x j) = true) := hT
    clear hT
    go_wp2_with fail
    have h9 := D1.drew.br
    have b0 := D1.drew.box
    refine wp_region_noPanic ?_
    refine wp_region_held_drew (S := BrAt w op rd i j imm) (by kernel_rfl) h9 (fun h0 => ?_)
    refine wpAnyH_takeAt (i := 0) (v := ?_) rfl (by kernel_rfl) (by kernel_rfl) (by kernel_rfl) (fun _ _ _ h => h) (Or.inl ⟨by rfl, ?_⟩) h0 ?_
    rotate_left 1
    · intro w' hS; have a0 := hS.ins.c0; have a1 := hS.ins.c1; have a2 := hS.ins.c2; have a3 := hS.ins.c3; have a4 := hS.ins.c4; clear hS
      go_simp <;> with_reducible rfl
    try simp only [Act.put, List.setIfInBounds_toArray, List.set_cons_zero, List.set_cons_succ]
    refine wpAnyH_takeAt (i := 2) (v := ?_) rfl (by kernel_rfl) (by kernel_rfl) (by kernel_rfl) (fun _ _ _ h => h) (Or.inl ⟨by rfl, ?_⟩) h0 ?_
    rotate_left 1
    · intro w' hS; have a0 := hS.ins.c0; have a1 := hS.ins.c1; have a2 := hS.ins.c2; have a3 := hS.ins.c3; have a4 := hS.ins.c4; clear hS
      go_simp <;> with_reducible rfl
    try simp only [Act.put, List.setIfInBounds_toArray, List.set_cons_zero, List.set_cons_succ]
    refine wpAnyH_ready (rs := [1, 3]) (by kernel_rfl) (by simp) (AllReadyH.cons (at_drop rfl) (fun K hK => ?_) (allReady_at rfl (fun K hK => ?_)))
    · -- the address first
      have p8 := b0.at
      go_simp
      have h2 := h0
      refine hK.out _ _ h2 (fun _ => ?_)
      clear hK K
      try simp only [Act.put, List.setIfInBounds_toArray, List.set_cons_zero, List.set_cons_succ]
      refine wpAnyH_ready (rs := [3]) (by kernel_rfl) (by simp) (allReady_at rfl (fun K hK => ?_))
      go_simp
      refine (cnumber_any _ _ _ _ _ _).mono ?_
      rintro e w3 ⟨rfl, hb3⟩
      dsimp only
      have b3 := b0.below hb3
      have h3 : BrAt w op rd i j imm w3 := h2.below hb3
      refine hK.out _ _ h3 (fun _ => ?_)
      clear hK K
      try simp only [Act.put, List.setIfInBounds_toArray, List.set_cons_zero, List.set_cons_succ]
      refine wpAnyH_takeAt (i := 4) (v := .int .u32 (Z.toNat : Int)) rfl (by kernel_rfl) (by kernel_rfl) (by kernel_rfl) (fun _ _ _ h => h) (Or.inl ⟨by rfl, ?_⟩) h3 ?_
      · intro w' hS; clear hS
        go_simp
      try simp only [Act.put, List.setIfInBounds_toArray, List.set_cons_zero, List.set_cons_succ]
      refine wpAnyH_takeAt (i := 5) (v := ?_) rfl (by kernel_rfl) (by kernel_rfl) (by kernel_rfl) (fun _ _ _ h => h) (Or.inl ⟨by rfl, ?_⟩) h3 ?_
      rotate_left 1
      · intro w' hS; clear hS
        go_simp <;> with_reducible rfl
      try simp only [Act.put, List.setIfInBounds_toArray, List.set_cons_zero, List.set_cons_succ]
      refine wpAnyH_ready (rs := [6]) (by kernel_rfl) (by simp) (allReady_at rfl (fun K hK => ?_))
      have p9 := b3.at
      have f9 := b3.free 32
      go_simp
      have h4 := h3.setp c b3 Z
      refine hK.out _ _ h4 (fun _ => ?_)
      clear hK K
      try simp only [Act.put, List.setIfInBounds_toArray, List.set_cons_zero, List.set_cons_succ]
      refine wpAnyH_done (by kernel_rfl) ?_ _
      refine NoPanic.normal ?_
      have b4 := b3.setp Z
      obtain ⟨r, hr⟩ := h4.res
      go_wp2_with (first
        | (refine wpList_load_row rfl 25 _ rfl w.heap.size rfl _ _ _ _ b4 Tryz.underlying25 rfl (infoCs _) ?_)
        | (refine wpList_store_row rfl 25 _ _ rfl (w.heap.size + 2) _ rfl rfl _ _ hr (infoCs _) (cells_same _ _) (cells_one _) ?_))
      have e9 : sp c Z = brM c op i j imm := by unfold brM; rw [Int.toNat_natCast, Int.toNat_natCast, HT.out, HZ.out]; rfl
      exact bodyPost_ret (results_cell_row (p := 4) (by kernel_rfl) _ _ (w.heap.size + 2) _ _ _ _ rfl (hr.setRow _) Tryz.underlying25 rfl (infoCs _)) rfl
        ⟨by rw [e9], below_row h4.low (by omega) _⟩
    · -- the number first
      go_simp
      refine (cnumber_any _ _ _ _ _ _).mono ?_
      rintro e w3 ⟨rfl, hb3⟩
      dsimp only
      have b2 := b0.below hb3
      have h2 : BrAt w op rd i j imm w3 := h0.below hb3
      refine hK.out _ _ h2 (fun _ => ?_)
      clear hK K
      try simp only [Act.put, List.setIfInBounds_toArray, List.set_cons_zero, List.set_cons_succ]
      refine wpAnyH_ready (rs := [1]) (by kernel_rfl) (by simp) (allReady_at rfl (fun K hK => ?_))
      have p8 := b2.at
      go_simp
      have b3 := b2
      have h3 := h2
      refine hK.out _ _ h3 (fun _ => ?_)
      clear hK K
      try simp only [Act.put, List.setIfInBounds_toArray, List.set_cons_zero, List.set_cons_succ]
      refine wpAnyH_takeAt (i := 4) (v := .int .u32 (Z.toNat : Int)) rfl (by kernel_rfl) (by kernel_rfl) (by kernel_rfl) (fun _ _ _ h => h) (Or.inl ⟨by rfl, ?_⟩) h3 ?_
      · intro w' hS; clear hS
        go_simp
      try simp only [Act.put, List.setIfInBounds_toArray, List.set_cons_zero, List.set_cons_succ]
      refine wpAnyH_takeAt (i := 5) (v := ?_) rfl (by kernel_rfl) (by kernel_rfl) (by kernel_rfl) (fun _ _ _ h => h) (Or.inl ⟨by rfl, ?_⟩) h3 ?_
      rotate_left 1
      · intro w' hS; clear hS
        go_simp <;> with_reducible rfl
      try simp only [Act.put, List.setIfInBounds_toArray, List.set_cons_zero, List.set_cons_succ]
      refine wpAnyH_ready (rs := [6]) (by kernel_rfl) (by simp) (allReady_at rfl (fun K hK => ?_))
      have p9 := b3.at
      have f9 := b3.free 32
      go_simp
      have h4 := h3.setp c b3 Z
      refine hK.out _ _ h4 (fun _ => ?_)
      clear hK K
      try simp only [Act.put, List.setIfInBounds_toArray, List.set_cons_zero, List.set_cons_succ]
      refine wpAnyH_done (by kernel_rfl) ?_ _
      refine NoPanic.normal ?_
      have b4 := b3.setp Z
      obtain ⟨r, hr⟩ := h4.res
      go_wp2_with (first
        | (refine wpList_load_row rfl 25 _ rfl w.heap.size rfl _ _ _ _ b4 Tryz.underlying25 rfl (infoCs _) ?_)
        | (refine wpList_store_row rfl 25 _ _ rfl (w.heap.size + 2) _ rfl rfl _ _ hr (infoCs _) (cells_same _ _) (cells_one _) ?_))
      have e9 : sp c Z = brM c op i j imm := by unfold brM; rw [Int.toNat_natCast, Int.toNat_natCast, HT.out, HZ.out]; rfl
      exact bodyPost_ret (results_cell_row (p := 4) (by kernel_rfl) _ _ (w.heap.size + 2) _ _ _ _ rfl (hr.setRow _) Tryz.underlying25 rfl (infoCs _)) rfl
        ⟨by rw [e9], below_row h4.low (by omega) _⟩
  | false =>
    have HT : Hid (takes op (c.x i) (c.x j) = false) := hT
    clear hT
    have p9 := D1.box.at
    have f9 := D1.box.free 32
    obtain ⟨r, hr⟩ := D1.res
    have b4 := D1.box.setp Q
    have hr4 := hr.other ⟨w.heap.size, 32, none⟩ (.int .u32 (Q.toNat : Int)) (by simp)
    go_wp2_with (first
      | (refine wpList_load_row rfl 25 _ rfl w.heap.size rfl _ _ _ _ b4 Tryz.underlying25 rfl (infoCs _) ?_)
      | (refine wpList_store_row rfl 25 _ _ rfl (w.heap.size + 2) _ rfl rfl _ _ hr4 (infoCs _) (cells_same _ _) (cells_one _) ?_))
    have e9 : sp c Q = brM c op i j imm := by unfold brM; rw [Int.toNat_natCast, Int.toNat_natCast, HT.out, HQ.out]; rfl
    exact bodyPost_ret (results_cell_row (p := 4) (by kernel_rfl) _ _ (w.heap.size + 2) _ _ _ _ rfl (hr4.setRow _) Tryz.underlying25 rfl (infoCs _)) rfl
      ⟨by rw [e9], below_row (below_cell1 D1.low (Nat.le_refl _) _ _) (by omega) _⟩
end Go.Proofs.YtilphdfobflbiaaGreat
namespace Go.Proofs.YtilphdfobflbiaaGreat
open Go.RowKit Go.Maps Cp Ip Mm
set_option linter.unusedSimpArgs false

def wN (op : Int) : Int := if op = 10 ∨ op = 13 ∨ op = 15 then 1 else if op = 11 ∨ op = 14 ∨ op = 16 then 2 else 4
def wS (op : Int) : Int := if op = 10 then 8 else if op = 11 then 16 else 32
def accA (c : Mach) (rs1 imm : Int) : BitVec 32 := c.x rs1.toNat + numb imm
def accOk (c : Mach) (op rs1 imm : Int) : Bool := decide (((accA c rs1 imm).toNat : Int) % wN op = 0)
def loadV (l : Cs) (A : BitVec 32) (op : Int) : BitVec 32 := Wd.sign (BitVec.ofInt 32 (Mm.num l (A.toNat : Int) (wN op).toNat)) (wS op)
def accM (c : Mach) (l : Cs) (op rd rs1 imm : Int) : Mach :=
  if accOk c op rs1 imm = true then (if 15 ≤ op then sp c (c.pc + (BitVec.ofNat 32 4)) else onw c rd (loadV l (accA c rs1 imm) op)) else c
def accE (c : Mach) (op rs1 imm : Int) : Int := if accOk c op rs1 imm = true then 0 else 5
def accL (c : Mach) (l : Cs) (op rs1 rs2 imm : Int) : Cs :=
  if accOk c op rs1 imm = true ∧ 15 ≤ op then Mm.sto l ((accA c rs1 imm).toNat : Int) ((c.x rs2.toNat).toNat : Int) (wN op).toNat else l
theorem hideC {p : Prop} (h : p) : Hid p := h
theorem wN_3 (op : Int) : wN op = 1 ∨ wN op = 2 ∨ wN op = 4 := by
  unfold wN; split
  · exact .inl rfl
  · split
    · exact .inr (.inl rfl)
    · exact .inr (.inr rfl)
theorem ret_ints {a b c d : Int} (h : a = b) (k : c = d) : Ending.returned (.tuple #[.int .i64 a, .int .i64 c]) = .returned (.tuple #[.int .i64 b, .int .i64 d]) := by rw [h, k]
theorem width_any (op : Int) (h : 10 ≤ op ∧ op ≤ 17) (w : World) : Calls Tryz.prog 76 #[.int .i64 op] w fun e w' => e = .returned (.tuple #[.int .i64 (wN op), .int .i64 (wS op)]) ∧ w' = w := by
  have e : op = 10 ∨ op = 11 ∨ op = 12 ∨ op = 13 ∨ op = 14 ∨ op = 15 ∨ op = 16 ∨ op = 17 := by omega
  clear h
  rcases e with rfl | rfl | rfl | rfl | rfl | rfl | rfl | rfl
  all_goals
    go_enter Tryz.func76, Tryz.ntmps76
    go_wp2
    go_ret2
    exact ⟨ret_ints rfl rfl, rfl⟩
theorem grown_of_below {w w' : World} {g : Nat} (h : Below w.heap.size w w') : w.grownBy w' (some g) := ⟨h.os, h.tape, h.output, h.size, fun k hk _ => h.block k hk⟩

theorem mem_beside {W : World} {pb bm : Nat} {l : Cs} {B g k : Nat} (h : MemAt W pb bm l) (h1 : pb < B) (h2 : bm < B) (hg : B ≤ g) (hk : B ≤ k) (i : Nat) (v : Value) (cs : Array Value) : MemAt ((W.setCell ⟨g, i, none⟩ v).setRow k cs) pb bm l := by
  have hb : Below B W ((W.setCell ⟨g, i, none⟩ v).setRow k cs) := below_row (below_cell1 (Below.refl _ _) hg _ _) hk _
  refine ⟨(hb.block pb h1).trans h.box, h.rise, ?_⟩
  obtain ⟨es, clock, q, r⟩ := h.own
  exact ⟨es, clock, (hb.block bm h2).trans q, r⟩
theorem grown_beside {w W : World} {b g k : Nat} (h : w.grownBy W (some b)) (hg : w.heap.size ≤ g) (hk : w.heap.size ≤ k) (i : Nat) (v : Value) (cs : Array Value) : w.grownBy ((W.setCell ⟨g, i, none⟩ v).setRow k cs) (some b) := by
  have hb : Below w.heap.size W ((W.setCell ⟨g, i, none⟩ v).setRow k cs) := below_row (below_cell1 (Below.refl _ _) hg _ _) hk _
  exact ⟨hb.os.trans h.os, hb.tape.trans h.tape, hb.output.trans h.output, Nat.le_trans h.size hb.size, fun j hj hn => (hb.block j hj).trans (h.block j hj hn)⟩

set_option maxRecDepth 100000 in
set_option maxHeartbeats 4000000 in
theorem access_bad (c : Mach) (m : Value) (op rd : Int) (i : Nat) (rs2 imm : Int) (hop : 10 ≤ op ∧ op ≤ 17) (hi : i < 32) (hA : ((accA c i imm).toNat : Int) % wN op ≠ 0) (w : World) :
    Calls Tryz.prog 47 #[.agg (cells c), m, .agg #[.int .i64 op, .int .i64 rd, .int .i64 (i : Int), .int .i64 rs2, .int .i64 imm]] w fun e w' => e = .returned (.tuple #[.agg (cells c), .int .i64 5]) ∧ Below w.heap.size w w' := by
  have hz := zeroC
  have D0 := (doesAt_start w c op rd i rs2 imm).step
  have hi2 : (i : Int) < 32 := by omega
  obtain ⟨Z, hE, hE2, HZ⟩ := bump (c.x i) (numb imm)
  have hZ : accA c i imm = Z := by unfold accA; rw [Int.toNat_natCast, HZ.out]
  rw [hZ] at hA
  have HZ2 := hideC hZ
  clear hZ
  go_enter Tryz.func47, Tryz.ntmps47
  go_wp2_with fail
  refine wp_region_noPanic ?_
  refine wp_region_held_drew (S := StepAt w c op rd i rs2 imm) (by kernel_rfl) D0.drew (fun h0 => ?_)
  refine wpAnyH_takeAt (i := 0) (v := ?_) rfl (by kernel_rfl) (by kernel_rfl) (by kernel_rfl) (fun _ _ _ h => h) (Or.inl ⟨by rfl, ?_⟩) h0 ?_
  rotate_left 1
  · intro w' hS; have a0 := hS.ins.c0; have a1 := hS.ins.c1; have a2 := hS.ins.c2; have a3 := hS.ins.c3; have a4 := hS.ins.c4; have a5 := hS.box.reg i hi; clear hS
    go_simp <;> with_reducible rfl
  try simp only [Act.put, List.setIfInBounds_toArray, List.set_cons_zero, List.set_cons_succ]
  refine wpAnyH_takeAt (i := 1) (v := ?_) rfl (by kernel_rfl) (by kernel_rfl) (by kernel_rfl) (fun _ _ _ h => h) (Or.inl ⟨by rfl, ?_⟩) h0 ?_
  rotate_left 1
  · intro w' hS; have a0 := hS.ins.c0; have a1 := hS.ins.c1; have a2 := hS.ins.c2; have a3 := hS.ins.c3; have a4 := hS.ins.c4; have a5 := hS.box.reg i hi; clear hS
    go_simp <;> with_reducible rfl
  try simp only [Act.put, List.setIfInBounds_toArray, List.set_cons_zero, List.set_cons_succ]
  refine wpAnyH_takeAt (i := 2) (v := ?_) rfl (by kernel_rfl) (by kernel_rfl) (by kernel_rfl) (fun _ _ _ h => h) (Or.inl ⟨by rfl, ?_⟩) h0 ?_
  rotate_left 1
  · intro w' hS; have a0 := hS.ins.c0; have a1 := hS.ins.c1; have a2 := hS.ins.c2; have a3 := hS.ins.c3; have a4 := hS.ins.c4; have a5 := hS.box.reg i hi; clear hS
    go_simp <;> with_reducible rfl
  try simp only [Act.put, List.setIfInBounds_toArray, List.set_cons_zero, List.set_cons_succ]
  refine wpAnyH_takeAt (i := 3) (v := ?_) rfl (by kernel_rfl) (by kernel_rfl) (by kernel_rfl) (fun _ _ _ h => h) (Or.inl ⟨by rfl, ?_⟩) h0 ?_
  rotate_left 1
  · intro w' hS; have a0 := hS.ins.c0; have a1 := hS.ins.c1; have a2 := hS.ins.c2; have a3 := hS.ins.c3; have a4 := hS.ins.c4; have a5 := hS.box.reg i hi; clear hS
    go_simp <;> with_reducible rfl
  try simp only [Act.put, List.setIfInBounds_toArray, List.set_cons_zero, List.set_cons_succ]
  refine wpAnyH_takeAt (i := 4) (v := ?_) rfl (by kernel_rfl) (by kernel_rfl) (by kernel_rfl) (fun _ _ _ h => h) (Or.inl ⟨by rfl, ?_⟩) h0 ?_
  rotate_left 1
  · intro w' hS; have a0 := hS.ins.c0; have a1 := hS.ins.c1; have a2 := hS.ins.c2; have a3 := hS.ins.c3; have a4 := hS.ins.c4; have a5 := hS.box.reg i hi; clear hS
    go_simp <;> with_reducible rfl
  try simp only [Act.put, List.setIfInBounds_toArray, List.set_cons_zero, List.set_cons_succ]
  refine wpAnyH_takeAt (i := 5) (v := ?_) rfl (by kernel_rfl) (by kernel_rfl) (by kernel_rfl) (fun _ _ _ h => h) (Or.inl ⟨by rfl, ?_⟩) h0 ?_
  rotate_left 1
  · intro w' hS; have a0 := hS.ins.c0; have a1 := hS.ins.c1; have a2 := hS.ins.c2; have a3 := hS.ins.c3; have a4 := hS.ins.c4; have a5 := hS.box.reg i hi; clear hS
    go_simp <;> with_reducible rfl
  try simp only [Act.put, List.setIfInBounds_toArray, List.set_cons_zero, List.set_cons_succ]
  refine wpAnyH_ready (rs := [6]) (by kernel_rfl) (by simp) (allReady_at rfl (fun K hK => ?_))
  go_simp
  refine (cnumber_any _ _ _ _ _ _).mono ?_
  rintro e w1 ⟨rfl, hb1⟩
  dsimp only
  have h1 : StepAt w c op rd i rs2 imm w1 := h0.below hb1
  refine hK.out _ _ h1 (fun _ => ?_)
  clear hK K
  try simp only [Act.put, List.setIfInBounds_toArray, List.set_cons_zero, List.set_cons_succ]
  refine wpAnyH_takeAt (i := 7) (v := .int .u32 (Z.toNat : Int)) rfl (by kernel_rfl) (by kernel_rfl) (by kernel_rfl) (fun _ _ _ h => h) (Or.inl ⟨by rfl, ?_⟩) h1 ?_
  · intro w' hS; clear hS
    go_simp
  try simp only [Act.put, List.setIfInBounds_toArray, List.set_cons_zero, List.set_cons_succ]
  refine wpAnyH_takeAt (i := 8) (v := ?_) rfl (by kernel_rfl) (by kernel_rfl) (by kernel_rfl) (fun _ _ _ h => h) (Or.inl ⟨by rfl, ?_⟩) h1 ?_
  rotate_left 1
  · intro w' hS; clear hS
    go_simp <;> with_reducible rfl
  try simp only [Act.put, List.setIfInBounds_toArray, List.set_cons_zero, List.set_cons_succ]
  refine wpAnyH_done (by kernel_rfl) ?_ _
  refine NoPanic.normal ?_
  obtain ⟨x0, x1, x2, x3, x4, x5⟩ := h1.ins
  clear D0 h0
  go_wp2_with fail
  refine (width_any op (by omega) _).mono ?_
  rintro e w2 ⟨rfl, rfl⟩
  clear hE hE2 hop
  have hn := wN_3 op
  generalize wN op = n at hA hn ⊢
  obtain ⟨r, hr⟩ := h1.res
  have ht : (((Z.toNat : Int) % n) != 0) = true := by simpa using hA
  rcases hn with rfl | rfl | rfl
  · exfalso; omega
  all_goals
    go_wp2_with (first
      | (refine wpList_load_row rfl 25 _ rfl w.heap.size rfl _ _ _ _ h1.box Tryz.underlying25 rfl (infoCs _) ?_)
      | (refine wpList_store_row rfl 25 _ _ rfl (w.heap.size + 2) _ rfl rfl _ _ hr (infoCs _) (cells_same _ _) (cells_one _) ?_))
    exact bodyPost_ret (results_row_tmp (p := 6) (u := 7) (by kernel_rfl) _ _ (w.heap.size + 2) _ _ _ _ rfl (hr.setRow _) Tryz.underlying25 rfl (infoCs _)) rfl
      ⟨rfl, below_row h1.low (by omega) _⟩

set_option maxRecDepth 100000 in
set_option maxHeartbeats 8000000 in
theorem access_store {pb bm : Nat} {l : Cs} (c : Mach) (op rd : Int) (i j : Nat) (imm : Int) (hop : 15 ≤ op ∧ op ≤ 17) (hi : i < 32) (hj : j < 32) (hA : ((accA c i imm).toNat : Int) % wN op = 0) (w : World) (hm : MemAt w pb bm l) :
    Calls Tryz.prog 47 #[.agg (cells c), .pointer (some ⟨pb, 0, none⟩), .agg #[.int .i64 op, .int .i64 rd, .int .i64 (i : Int), .int .i64 (j : Int), .int .i64 imm]] w fun e w' => e = .returned (.tuple #[.agg (cells (sp c (c.pc + (BitVec.ofNat 32 4)))), .int .i64 0]) ∧ MemAt w' pb bm (Mm.sto l ((accA c i imm).toNat : Int) ((c.x j).toNat : Int) (wN op).toNat) ∧ w.grownBy w' (some bm) := by
  have hz := zeroC
  have D0 := (doesAt_start w c op rd i j imm).step
  have hi2 : (i : Int) < 32 := by omega
  obtain ⟨Z, hE, hE2, HZ⟩ := bump (c.x i) (numb imm)
  have hZ : accA c i imm = Z := by unfold accA; rw [Int.toNat_natCast, HZ.out]
  rw [hZ] at hA
  have HZ2 := hideC hZ
  clear hZ
  go_enter Tryz.func47, Tryz.ntmps47
  go_wp2_with fail
  refine wp_region_noPanic ?_
  refine wp_region_held_drew (S := StepAt w c op rd i j imm) (by kernel_rfl) D0.drew (fun h0 => ?_)
  refine wpAnyH_takeAt (i := 0) (v := ?_) rfl (by kernel_rfl) (by kernel_rfl) (by kernel_rfl) (fun _ _ _ h => h) (Or.inl ⟨by rfl, ?_⟩) h0 ?_
  rotate_left 1
  · intro w' hS; have a0 := hS.ins.c0; have a1 := hS.ins.c1; have a2 := hS.ins.c2; have a3 := hS.ins.c3; have a4 := hS.ins.c4; have a5 := hS.box.reg i hi; clear hS
    go_simp <;> with_reducible rfl
  try simp only [Act.put, List.setIfInBounds_toArray, List.set_cons_zero, List.set_cons_succ]
  refine wpAnyH_takeAt (i := 1) (v := ?_) rfl (by kernel_rfl) (by kernel_rfl) (by kernel_rfl) (fun _ _ _ h => h) (Or.inl ⟨by rfl, ?_⟩) h0 ?_
  rotate_left 1
  · intro w' hS; have a0 := hS.ins.c0; have a1 := hS.ins.c1; have a2 := hS.ins.c2; have a3 := hS.ins.c3; have a4 := hS.ins.c4; have a5 := hS.box.reg i hi; clear hS
    go_simp <;> with_reducible rfl
  try simp only [Act.put, List.setIfInBounds_toArray, List.set_cons_zero, List.set_cons_succ]
  refine wpAnyH_takeAt (i := 2) (v := ?_) rfl (by kernel_rfl) (by kernel_rfl) (by kernel_rfl) (fun _ _ _ h => h) (Or.inl ⟨by rfl, ?_⟩) h0 ?_
  rotate_left 1
  · intro w' hS; have a0 := hS.ins.c0; have a1 := hS.ins.c1; have a2 := hS.ins.c2; have a3 := hS.ins.c3; have a4 := hS.ins.c4; have a5 := hS.box.reg i hi; clear hS
    go_simp <;> with_reducible rfl
  try simp only [Act.put, List.setIfInBounds_toArray, List.set_cons_zero, List.set_cons_succ]
  refine wpAnyH_takeAt (i := 3) (v := ?_) rfl (by kernel_rfl) (by kernel_rfl) (by kernel_rfl) (fun _ _ _ h => h) (Or.inl ⟨by rfl, ?_⟩) h0 ?_
  rotate_left 1
  · intro w' hS; have a0 := hS.ins.c0; have a1 := hS.ins.c1; have a2 := hS.ins.c2; have a3 := hS.ins.c3; have a4 := hS.ins.c4; have a5 := hS.box.reg i hi; clear hS
    go_simp <;> with_reducible rfl
  try simp only [Act.put, List.setIfInBounds_toArray, List.set_cons_zero, List.set_cons_succ]
  refine wpAnyH_takeAt (i := 4) (v := ?_) rfl (by kernel_rfl) (by kernel_rfl) (by kernel_rfl) (fun _ _ _ h => h) (Or.inl ⟨by rfl, ?_⟩) h0 ?_
  rotate_left 1
  · intro w' hS; have a0 := hS.ins.c0; have a1 := hS.ins.c1; have a2 := hS.ins.c2; have a3 := hS.ins.c3; have a4 := hS.ins.c4; have a5 := hS.box.reg i hi; clear hS
    go_simp <;> with_reducible rfl
  try simp only [Act.put, List.setIfInBounds_toArray, List.set_cons_zero, List.set_cons_succ]
  refine wpAnyH_takeAt (i := 5) (v := ?_) rfl (by kernel_rfl) (by kernel_rfl) (by kernel_rfl) (fun _ _ _ h => h) (Or.inl ⟨by rfl, ?_⟩) h0 ?_
  rotate_left 1
  · intro w' hS; have a0 := hS.ins.c0; have a1 := hS.ins.c1; have a2 := hS.ins.c2; have a3 := hS.ins.c3; have a4 := hS.ins.c4; have a5 := hS.box.reg i hi; clear hS
    go_simp <;> with_reducible rfl
  try simp only [Act.put, List.setIfInBounds_toArray, List.set_cons_zero, List.set_cons_succ]
  refine wpAnyH_ready (rs := [6]) (by kernel_rfl) (by simp) (allReady_at rfl (fun K hK => ?_))
  go_simp
  refine (cnumber_any _ _ _ _ _ _).mono ?_
  rintro e w1 ⟨rfl, hb1⟩
  dsimp only
  have h1 : StepAt w c op rd i j imm w1 := h0.below hb1
  refine hK.out _ _ h1 (fun _ => ?_)
  clear hK K
  try simp only [Act.put, List.setIfInBounds_toArray, List.set_cons_zero, List.set_cons_succ]
  refine wpAnyH_takeAt (i := 7) (v := .int .u32 (Z.toNat : Int)) rfl (by kernel_rfl) (by kernel_rfl) (by kernel_rfl) (fun _ _ _ h => h) (Or.inl ⟨by rfl, ?_⟩) h1 ?_
  · intro w' hS; clear hS
    go_simp
  try simp only [Act.put, List.setIfInBounds_toArray, List.set_cons_zero, List.set_cons_succ]
  refine wpAnyH_takeAt (i := 8) (v := ?_) rfl (by kernel_rfl) (by kernel_rfl) (by kernel_rfl) (fun _ _ _ h => h) (Or.inl ⟨by rfl, ?_⟩) h1 ?_
  rotate_left 1
  · intro w' hS; clear hS
    go_simp <;> with_reducible rfl
  try simp only [Act.put, List.setIfInBounds_toArray, List.set_cons_zero, List.set_cons_succ]
  refine wpAnyH_done (by kernel_rfl) ?_ _
  refine NoPanic.normal ?_
  obtain ⟨x0, x1, x2, x3, x4, x5⟩ := h1.ins
  clear D0 h0
  go_wp2_with fail
  refine (width_any op (by omega) _).mono ?_
  rintro e w2 ⟨rfl, rfl⟩
  clear hE hE2
  have hj2 : (j : Int) < 32 := by omega
  have hn := wN_3 op
  have hcase : (op = 15 ∧ wN op = 1) ∨ (op = 16 ∧ wN op = 2) ∨ (op = 17 ∧ wN op = 4) := by
    have hop3 : op = 15 ∨ op = 16 ∨ op = 17 := by omega
    rcases hop3 with rfl | rfl | rfl
    · exact .inl ⟨rfl, rfl⟩
    · exact .inr (.inl ⟨rfl, rfl⟩)
    · exact .inr (.inr ⟨rfl, rfl⟩)
  generalize wN op = n at hA hn hcase ⊢
  obtain ⟨r, hr⟩ := h1.res
  have q1 := h1.box.reg j hj
  have hl := hm.lt
  have hl' := hm.lt'
  have hm1 := (hm.kept (row := none) ⟨h1.low.os, h1.low.tape, h1.low.output, h1.low.size, fun k hk _ => h1.low.block k hk⟩ (by simp) (by simp))
  obtain ⟨Q, hQ, HQ⟩ := four c.pc
  have ht : (((Z.toNat : Int) % n) != 0) = false := by simpa using hA
  clear hn hop
  rcases hcase with ⟨rfl, rfl⟩ | ⟨rfl, rfl⟩ | ⟨rfl, rfl⟩
  all_goals
    go_wp2_with fail
    refine (store_any _ hm1 ⟨by omega, Wd.lt Z⟩ (by omega) ⟨by omega, Wd.lt (c.x j)⟩).mono ?_
    rintro e w3 ⟨rfl, hm3, hg3⟩
    have b3 : BoxC w3 w.heap.size c := Box.grown h1.box hg3 (by omega)
    have r3 : BoxC w3 (w.heap.size + 2) r := Box.grown hr hg3 (by omega)
    have p3 := b3.at
    have f3 := b3.free 32
    have b4 := b3.setp Q
    have r4 := r3.other ⟨w.heap.size, 32, none⟩ (.int .u32 (Q.toNat : Int)) (by simp)
    have l3 : w.grownBy w3 (some bm) := ⟨hg3.os.trans h1.low.os, hg3.tape.trans h1.low.tape, hg3.output.trans h1.low.output, Nat.le_trans h1.low.size hg3.size, fun k hk hn => (hg3.block k (Nat.lt_of_lt_of_le hk h1.low.size) hn).trans (h1.low.block k hk)⟩
    clear x0 x1 x2 x3 x4 x5 q1 hm1 hg3
    go_wp2_with (first
      | (refine wpList_load_row rfl 25 _ rfl w.heap.size rfl _ _ _ _ b4 Tryz.underlying25 rfl (infoCs _) ?_)
      | (refine wpList_store_row rfl 25 _ _ rfl (w.heap.size + 2) _ rfl rfl _ _ r4 (infoCs _) (cells_same _ _) (cells_one _) ?_))
    have e9 : sp c Q = sp c (c.pc + (BitVec.ofNat 32 4)) := by rw [HQ.out]
    rw [e9]
    have hm9 : MemAt ((w3.setCell ⟨w.heap.size, 32, none⟩ (.int .u32 (Q.toNat : Int))).setRow (w.heap.size + 2) (cells (sp c (c.pc + (BitVec.ofNat 32 4))))) pb bm _ := mem_beside hm3 hl hl' (Nat.le_refl _) (by omega) _ _ _
    exact bodyPost_ret (results_row_tmp (p := 6) (u := 7) (by kernel_rfl) _ _ (w.heap.size + 2) _ _ _ _ rfl (r4.setRow _) Tryz.underlying25 rfl (infoCs _)) rfl
      ⟨rfl, by rw [HZ2.out]; exact hm9, grown_beside l3 (Nat.le_refl _) (by omega) _ _ _⟩

set_option maxRecDepth 100000 in
set_option maxHeartbeats 8000000 in
theorem access_load {pb bm : Nat} {l : Cs} (c : Mach) (op rd : Int) (i : Nat) (rs2 imm : Int) (hop : 10 ≤ op ∧ op ≤ 14) (hi : i < 32) (hrd0 : 0 ≤ rd) (hrd1 : rd < 32) (hA : ((accA c i imm).toNat : Int) % wN op = 0) (w : World) (hm : MemAt w pb bm l) :
    Calls Tryz.prog 47 #[.agg (cells c), .pointer (some ⟨pb, 0, none⟩), .agg #[.int .i64 op, .int .i64 rd, .int .i64 (i : Int), .int .i64 rs2, .int .i64 imm]] w fun e w' => e = .returned (.tuple #[.agg (cells (onw c rd (loadV l (accA c i imm) op))), .int .i64 0]) ∧ Below w.heap.size w w' := by
  have hz := zeroC
  have D0 := (doesAt_start w c op rd i rs2 imm).step
  have hi2 : (i : Int) < 32 := by omega
  obtain ⟨Z, hE, hE2, HZ⟩ := bump (c.x i) (numb imm)
  have hZ : accA c i imm = Z := by unfold accA; rw [Int.toNat_natCast, HZ.out]
  rw [hZ] at hA
  have HZ2 := hideC hZ
  clear hZ
  go_enter Tryz.func47, Tryz.ntmps47
  go_wp2_with fail
  refine wp_region_noPanic ?_
  refine wp_region_held_drew (S := StepAt w c op rd i rs2 imm) (by kernel_rfl) D0.drew (fun h0 => ?_)
  refine wpAnyH_takeAt (i := 0) (v := ?_) rfl (by kernel_rfl) (by kernel_rfl) (by kernel_rfl) (fun _ _ _ h => h) (Or.inl ⟨by rfl, ?_⟩) h0 ?_
  rotate_left 1
  · intro w' hS; have a0 := hS.ins.c0; have a1 := hS.ins.c1; have a2 := hS.ins.c2; have a3 := hS.ins.c3; have a4 := hS.ins.c4; have a5 := hS.box.reg i hi; clear hS
    go_simp <;> with_reducible rfl
  try simp only [Act.put, List.setIfInBounds_toArray, List.set_cons_zero, List.set_cons_succ]
  refine wpAnyH_takeAt (i := 1) (v := ?_) rfl (by kernel_rfl) (by kernel_rfl) (by kernel_rfl) (fun _ _ _ h => h) (Or.inl ⟨by rfl, ?_⟩) h0 ?_
  rotate_left 1
  · intro w' hS; have a0 := hS.ins.c0; have a1 := hS.ins.c1; have a2 := hS.ins.c2; have a3 := hS.ins.c3; have a4 := hS.ins.c4; have a5 := hS.box.reg i hi; clear hS
    go_simp <;> with_reducible rfl
  try simp only [Act.put, List.setIfInBounds_toArray, List.set_cons_zero, List.set_cons_succ]
  refine wpAnyH_takeAt (i := 2) (v := ?_) rfl (by kernel_rfl) (by kernel_rfl) (by kernel_rfl) (fun _ _ _ h => h) (Or.inl ⟨by rfl, ?_⟩) h0 ?_
  rotate_left 1
  · intro w' hS; have a0 := hS.ins.c0; have a1 := hS.ins.c1; have a2 := hS.ins.c2; have a3 := hS.ins.c3; have a4 := hS.ins.c4; have a5 := hS.box.reg i hi; clear hS
    go_simp <;> with_reducible rfl
  try simp only [Act.put, List.setIfInBounds_toArray, List.set_cons_zero, List.set_cons_succ]
  refine wpAnyH_takeAt (i := 3) (v := ?_) rfl (by kernel_rfl) (by kernel_rfl) (by kernel_rfl) (fun _ _ _ h => h) (Or.inl ⟨by rfl, ?_⟩) h0 ?_
  rotate_left 1
  · intro w' hS; have a0 := hS.ins.c0; have a1 := hS.ins.c1; have a2 := hS.ins.c2; have a3 := hS.ins.c3; have a4 := hS.ins.c4; have a5 := hS.box.reg i hi; clear hS
    go_simp <;> with_reducible rfl
  try simp only [Act.put, List.setIfInBounds_toArray, List.set_cons_zero, List.set_cons_succ]
  refine wpAnyH_takeAt (i := 4) (v := ?_) rfl (by kernel_rfl) (by kernel_rfl) (by kernel_rfl) (fun _ _ _ h => h) (Or.inl ⟨by rfl, ?_⟩) h0 ?_
  rotate_left 1
  · intro w' hS; have a0 := hS.ins.c0; have a1 := hS.ins.c1; have a2 := hS.ins.c2; have a3 := hS.ins.c3; have a4 := hS.ins.c4; have a5 := hS.box.reg i hi; clear hS
    go_simp <;> with_reducible rfl
  try simp only [Act.put, List.setIfInBounds_toArray, List.set_cons_zero, List.set_cons_succ]
  refine wpAnyH_takeAt (i := 5) (v := ?_) rfl (by kernel_rfl) (by kernel_rfl) (by kernel_rfl) (fun _ _ _ h => h) (Or.inl ⟨by rfl, ?_⟩) h0 ?_
  rotate_left 1
  · intro w' hS; have a0 := hS.ins.c0; have a1 := hS.ins.c1; have a2 := hS.ins.c2; have a3 := hS.ins.c3; have a4 := hS.ins.c4; have a5 := hS.box.reg i hi; clear hS
    go_simp <;> with_reducible rfl
  try simp only [Act.put, List.setIfInBounds_toArray, List.set_cons_zero, List.set_cons_succ]
  refine wpAnyH_ready (rs := [6]) (by kernel_rfl) (by simp) (allReady_at rfl (fun K hK => ?_))
  go_simp
  refine (cnumber_any _ _ _ _ _ _).mono ?_
  rintro e w1 ⟨rfl, hb1⟩
  dsimp only
  have h1 : StepAt w c op rd i rs2 imm w1 := h0.below hb1
  refine hK.out _ _ h1 (fun _ => ?_)
  clear hK K
  try simp only [Act.put, List.setIfInBounds_toArray, List.set_cons_zero, List.set_cons_succ]
  refine wpAnyH_takeAt (i := 7) (v := .int .u32 (Z.toNat : Int)) rfl (by kernel_rfl) (by kernel_rfl) (by kernel_rfl) (fun _ _ _ h => h) (Or.inl ⟨by rfl, ?_⟩) h1 ?_
  · intro w' hS; clear hS
    go_simp
  try simp only [Act.put, List.setIfInBounds_toArray, List.set_cons_zero, List.set_cons_succ]
  refine wpAnyH_takeAt (i := 8) (v := ?_) rfl (by kernel_rfl) (by kernel_rfl) (by kernel_rfl) (fun _ _ _ h => h) (Or.inl ⟨by rfl, ?_⟩) h1 ?_
  rotate_left 1
  · intro w' hS; clear hS
    go_simp <;> with_reducible rfl
  try simp only [Act.put, List.setIfInBounds_toArray, List.set_cons_zero, List.set_cons_succ]
  refine wpAnyH_done (by kernel_rfl) ?_ _
  refine NoPanic.normal ?_
  obtain ⟨x0, x1, x2, x3, x4, x5⟩ := h1.ins
  clear D0 h0
  go_wp2_with fail
  refine (width_any op (by omega) _).mono ?_
  rintro e w2 ⟨rfl, rfl⟩
  clear hE hE2
  have hn := wN_3 op
  have HV : Hid (loadV l (accA c i imm) op = Wd.sign (BitVec.ofInt 32 (Mm.num l (Z.toNat : Int) (wN op).toNat)) (wS op)) := by
    show loadV l (accA c i imm) op = _
    unfold loadV; rw [HZ2.out]
  have hm1 := (hm.kept (row := none) ⟨h1.low.os, h1.low.tape, h1.low.output, h1.low.size, fun k hk _ => h1.low.block k hk⟩ (by simp) (by simp))
  obtain ⟨V, hV, hV2⟩ : ∃ V : BitVec 32, Mm.num l (Z.toNat : Int) (wN op).toNat = (V.toNat : Int) ∧ BitVec.ofInt 32 (Mm.num l (Z.toNat : Int) (wN op).toNat) = V := by
    have hb := num_range hm.rise (Z.toNat : Int) (wN op).toNat
    have hc : (256 : Int) ^ (wN op).toNat ≤ 4294967296 := by rcases hn with e | e | e <;> rw [e] <;> decide
    obtain ⟨V, e⟩ := Wd.of_int (Mm.num l (Z.toNat : Int) (wN op).toNat) hb.1 (by omega)
    refine ⟨V, e, ?_⟩
    rw [e, BitVec.ofInt_natCast, BitVec.ofNat_toNat, BitVec.setWidth_eq]
  rw [hV2] at HV
  have HVn := hideC hV
  clear hV hV2
  generalize wN op = n at hA hn HVn ⊢
  obtain ⟨sg, hsg⟩ : ∃ sg, wS op = sg := ⟨_, rfl⟩
  rw [hsg] at HV ⊢
  have o15 : (op == 15) = false := by simp; omega
  have o16 : (op == 16) = false := by simp; omega
  have o17 : (op == 17) = false := by simp; omega
  clear hsg hop
  have ht : (((Z.toNat : Int) % n) != 0) = false := by simpa using hA
  rcases hn with rfl | rfl | rfl
  all_goals
    go_wp2_with fail
    refine (load_any _ hm1 ⟨by omega, Wd.lt Z⟩ (by omega)).mono ?_
    rintro e w3 ⟨rfl, rfl⟩
    rw [HVn.out]
    go_wp2_with fail
    have h5 := h1.drew
    refine wp_region_noPanic ?_
    refine wp_region_held_drew (S := StepAt w c op rd i rs2 imm) (by kernel_rfl) h5 (fun h0 => ?_)
    refine wpAnyH_takeAt (i := 0) (v := .agg (cells c)) rfl (by kernel_rfl) (by kernel_rfl) (by kernel_rfl) (fun _ _ _ h => h) (yieldsIf_row (by rfl) _ _ rfl w.heap.size rfl _ _ _ _ (fun _ h => h.box) Tryz.underlying25 rfl (infoCs _)) h0 ?_
    simp only [Act.put, List.setIfInBounds_toArray, List.set_cons_zero, List.set_cons_succ]
    refine wpAnyH_takeAt (i := 1) (v := ?_) rfl (by kernel_rfl) (by kernel_rfl) (by kernel_rfl) (fun _ _ _ h => h) (Or.inl ⟨by rfl, ?_⟩) h0 ?_
    rotate_left 1
    · intro w' hS; have a0 := hS.ins.c0; have a1 := hS.ins.c1; have a2 := hS.ins.c2; have a3 := hS.ins.c3; have a4 := hS.ins.c4; have a5 := hS.box.reg i hi; clear hS
      go_simp <;> with_reducible rfl
    try simp only [Act.put, List.setIfInBounds_toArray, List.set_cons_zero, List.set_cons_succ]
    refine wpAnyH_takeAt (i := 2) (v := ?_) rfl (by kernel_rfl) (by kernel_rfl) (by kernel_rfl) (fun _ _ _ h => h) (Or.inl ⟨by rfl, ?_⟩) h0 ?_
    rotate_left 1
    · intro w' hS; have a0 := hS.ins.c0; have a1 := hS.ins.c1; have a2 := hS.ins.c2; have a3 := hS.ins.c3; have a4 := hS.ins.c4; have a5 := hS.box.reg i hi; clear hS
      go_simp <;> with_reducible rfl
    try simp only [Act.put, List.setIfInBounds_toArray, List.set_cons_zero, List.set_cons_succ]
    refine wpAnyH_takeAt (i := 3) (v := ?_) rfl (by kernel_rfl) (by kernel_rfl) (by kernel_rfl) (fun _ _ _ h => h) (Or.inl ⟨by rfl, ?_⟩) h0 ?_
    rotate_left 1
    · intro w' hS; have a0 := hS.ins.c0; have a1 := hS.ins.c1; have a2 := hS.ins.c2; have a3 := hS.ins.c3; have a4 := hS.ins.c4; have a5 := hS.box.reg i hi; clear hS
      go_simp <;> with_reducible rfl
    try simp only [Act.put, List.setIfInBounds_toArray, List.set_cons_zero, List.set_cons_succ]
    refine wpAnyH_takeAt (i := 4) (v := ?_) rfl (by kernel_rfl) (by kernel_rfl) (by kernel_rfl) (fun _ _ _ h => h) (Or.inl ⟨by rfl, ?_⟩) h0 ?_
    rotate_left 1
    · intro w' hS; have a0 := hS.ins.c0; have a1 := hS.ins.c1; have a2 := hS.ins.c2; have a3 := hS.ins.c3; have a4 := hS.ins.c4; have a5 := hS.box.reg i hi; clear hS
      go_simp <;> with_reducible rfl
    try simp only [Act.put, List.setIfInBounds_toArray, List.set_cons_zero, List.set_cons_succ]
    refine wpAnyH_ready (rs := [5]) (by kernel_rfl) (by simp) (allReady_at rfl (fun K hK => ?_))
    go_simp
    refine (sign_any V sg _).mono ?_
    rintro e w4 ⟨rfl, kk, hw4⟩
    dsimp only
    have h6 : StepAt w c op rd i rs2 imm w4 := by rw [hw4]; exact h0.below (drewN_low _ kk _)
    refine hK.out _ _ h6 (fun _ => ?_)
    clear hK K
    try simp only [Act.put, List.setIfInBounds_toArray, List.set_cons_zero, List.set_cons_succ]
    clear hw4
    refine wpAnyH_ready (rs := [6]) (by kernel_rfl) (by simp) (allReady_at rfl (fun K hK => ?_))
    go_simp
    refine (onward_any c rd hrd0 hrd1 _ _).mono ?_
    rintro e w5 ⟨rfl, hb5⟩
    dsimp only
    have h7 : StepAt w c op rd i rs2 imm w5 := h6.below hb5
    refine hK.out _ _ h7 (fun _ => ?_)
    clear hK K
    try simp only [Act.put, List.setIfInBounds_toArray, List.set_cons_zero, List.set_cons_succ]
    obtain ⟨r, hr⟩ := h7.res
    refine wpAnyH_ready (rs := [7]) (by kernel_rfl) (by simp) (allReady_at rfl (fun K hK => ?_))
    rw [if_pos (by rfl)]
    refine wp_store_row 25 _ _ rfl (w.heap.size + 2) (cells (onw c rd (Wd.sign V sg))) rfl rfl _ _ hr (infoCs _) (cells_same _ _) (cells_one _) ?_
    have h8 := h7.row (onw c rd (Wd.sign V sg))
    refine hK.out _ _ h8 (fun _ => ?_)
    clear hK K
    try simp only [Act.put, List.setIfInBounds_toArray, List.set_cons_zero, List.set_cons_succ]
    refine wpAnyH_takeAt (i := 8) (v := ?_) rfl (by kernel_rfl) (by kernel_rfl) (by kernel_rfl) (fun _ _ _ h => h) (Or.inl ⟨by rfl, ?_⟩) h8 ?_
    rotate_left 1
    · intro w' hS; clear hS
      go_simp <;> with_reducible rfl
    try simp only [Act.put, List.setIfInBounds_toArray, List.set_cons_zero, List.set_cons_succ]
    refine wpAnyH_done (by kernel_rfl) ?_ _
    refine NoPanic.normal ?_
    go_wp2_with fail
    exact bodyPost_ret (results_row_tmp (p := 6) (u := 7) (by kernel_rfl) _ _ (w.heap.size + 2) _ _ _ _ rfl (hr.setRow _) Tryz.underlying25 rfl (infoCs _)) rfl
      ⟨by rw [HV.out]; rfl, below_row h7.low (by omega) _⟩
end Go.Proofs.YtilphdfobflbiaaGreat
