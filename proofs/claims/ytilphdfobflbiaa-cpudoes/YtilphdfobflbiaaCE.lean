/-
  The jumps.
-/
import Derived.Test.YtilphdfobflbiaaCD
import Derived.Test.YtilphdfobflbiaaHH
namespace Go.Proofs.Ytilphdfobflbiaa
open Go.RowKit Cp Ip
set_option linter.unusedSimpArgs false

/-- While notPlain or access is at work: the machine, the instruction, the answer's box. -/
structure StepAt (w : World) (c : Mach) (op rd rs1 rs2 imm : Int) (W : World) : Prop where
  box : BoxC W w.heap.size c
  ins : InsAt W (w.heap.size + 1) op rd rs1 rs2 imm
  res : ∃ r, BoxC W (w.heap.size + 2) r
  low : Below w.heap.size w W
theorem StepAt.below {w W W' : World} {c : Mach} {op rd rs1 rs2 imm : Int} (h : StepAt w c op rd rs1 rs2 imm W) (hb : Below W.heap.size W W') : StepAt w c op rd rs1 rs2 imm W' := by
  obtain ⟨r, hr⟩ := h.res
  exact ⟨h.box.below hb, h.ins.below hb, ⟨r, hr.below hb⟩, h.low.trans (hb.mono h.low.size)⟩
theorem StepAt.drew {w W : World} {c : Mach} {op rd rs1 rs2 imm : Int} (h : StepAt w c op rd rs1 rs2 imm W) : StepAt w c op rd rs1 rs2 imm W.drew := h.below (drewN_low W 1 _)
theorem insAt_row {w : World} {g : Nat} {op rd rs1 rs2 imm : Int} (h : InsAt w g op rd rs1 rs2 imm) (k : Nat) (cs : Array Value) (hn : g ≠ k) : InsAt (w.setRow k cs) g op rd rs1 rs2 imm := by
  have q : ∀ o, (w.setRow k cs).cell? ⟨g, o, none⟩ = w.cell? ⟨g, o, none⟩ := fun o => cell_setRow_other w k cs _ hn
  exact ⟨(q _).trans h.c0, (q _).trans h.c1, (q _).trans h.c2, (q _).trans h.c3, (q _).trans h.c4, by simpa using h.lt⟩
theorem StepAt.row {w W : World} {c : Mach} {op rd rs1 rs2 imm : Int} (h : StepAt w c op rd rs1 rs2 imm W) (d : Mach) : StepAt w c op rd rs1 rs2 imm (W.setRow (w.heap.size + 2) (cells d)) := by
  obtain ⟨r, hr⟩ := h.res
  exact ⟨h.box.otherRow _ _ (by omega), insAt_row h.ins _ _ (by omega), ⟨d, hr.setRow d⟩, below_row h.low (by omega) _⟩
theorem DoesAt.step {w W : World} {c r : Mach} {op rd rs1 rs2 imm : Int} (h : DoesAt w c r op rd rs1 rs2 imm W) : StepAt w c op rd rs1 rs2 imm W := ⟨h.box, h.ins, ⟨r, h.res⟩, h.low⟩
theorem bump (p q : BitVec 32) : ∃ Z : BitVec 32, ((p.toNat : Int) + (q.toNat : Int)) % 4294967296 = (Z.toNat : Int) ∧ IntKind.u32.wrap ((p.toNat : Int) + (q.toNat : Int)) = (Z.toNat : Int) ∧ Hid (Z = p + q) := ⟨p + q, Wd.add_ p q, Wd.add_ p q, rfl⟩

set_option maxRecDepth 100000 in
set_option maxHeartbeats 4000000 in
theorem notPlain_jal (c : Mach) (m : Value) (rd rs1 rs2 imm : Int) (hrd0 : 0 ≤ rd) (hrd1 : rd < 32) (w : World) :
    Calls Try.prog 36 #[.agg (cells c), m, .agg #[.int .i64 2, .int .i64 rd, .int .i64 rs1, .int .i64 rs2, .int .i64 imm]] w fun e w' => e = .returned (.tuple #[.agg (cells (jmp c rd (c.pc + numb imm))), .int .i64 0]) ∧ Below w.heap.size w w' := by
  have hz := zeroC
  obtain ⟨Z, hE, hE2, HZ⟩ := bump c.pc (numb imm)
  have D0 := (doesAt_start w c 2 rd rs1 rs2 imm).step
  go_enter Try.func36, Try.ntmps36
  go_wp2_with fail
  refine wp_region_noPanic ?_
  refine wp_region_held_drew (S := StepAt w c 2 rd rs1 rs2 imm) (by kernel_rfl) D0.drew (fun h0 => ?_)
  refine wpAnyH_takeAt (i := 0) (v := .agg (cells c)) rfl (by kernel_rfl) (by kernel_rfl) (by kernel_rfl) (fun _ _ _ h => h) (yieldsIf_row (by rfl) _ _ rfl w.heap.size rfl _ _ _ _ (fun _ h => h.box) Try.underlying25 rfl (infoCs _)) h0 ?_
  simp only [Act.put, List.setIfInBounds_toArray, List.set_cons_zero, List.set_cons_succ]
  refine wpAnyH_takeAt (i := 1) (v := ?_) rfl (by kernel_rfl) (by kernel_rfl) (by kernel_rfl) (fun _ _ _ h => h) (Or.inl ⟨by rfl, ?_⟩) h0 ?_
  rotate_left 1
  · intro w' hS; have a0 := hS.ins.c0; have a1 := hS.ins.c1; have a2 := hS.ins.c2; have a3 := hS.ins.c3; have a4 := hS.ins.c4; have a5 := hS.box.at; clear hS
    go_simp <;> with_reducible rfl
  try simp only [Act.put, List.setIfInBounds_toArray, List.set_cons_zero, List.set_cons_succ]
  refine wpAnyH_takeAt (i := 2) (v := ?_) rfl (by kernel_rfl) (by kernel_rfl) (by kernel_rfl) (fun _ _ _ h => h) (Or.inl ⟨by rfl, ?_⟩) h0 ?_
  rotate_left 1
  · intro w' hS; have a0 := hS.ins.c0; have a1 := hS.ins.c1; have a2 := hS.ins.c2; have a3 := hS.ins.c3; have a4 := hS.ins.c4; have a5 := hS.box.at; clear hS
    go_simp <;> with_reducible rfl
  try simp only [Act.put, List.setIfInBounds_toArray, List.set_cons_zero, List.set_cons_succ]
  refine wpAnyH_takeAt (i := 3) (v := ?_) rfl (by kernel_rfl) (by kernel_rfl) (by kernel_rfl) (fun _ _ _ h => h) (Or.inl ⟨by rfl, ?_⟩) h0 ?_
  rotate_left 1
  · intro w' hS; have a0 := hS.ins.c0; have a1 := hS.ins.c1; have a2 := hS.ins.c2; have a3 := hS.ins.c3; have a4 := hS.ins.c4; have a5 := hS.box.at; clear hS
    go_simp <;> with_reducible rfl
  try simp only [Act.put, List.setIfInBounds_toArray, List.set_cons_zero, List.set_cons_succ]
  refine wpAnyH_takeAt (i := 4) (v := ?_) rfl (by kernel_rfl) (by kernel_rfl) (by kernel_rfl) (fun _ _ _ h => h) (Or.inl ⟨by rfl, ?_⟩) h0 ?_
  rotate_left 1
  · intro w' hS; have a0 := hS.ins.c0; have a1 := hS.ins.c1; have a2 := hS.ins.c2; have a3 := hS.ins.c3; have a4 := hS.ins.c4; have a5 := hS.box.at; clear hS
    go_simp <;> with_reducible rfl
  try simp only [Act.put, List.setIfInBounds_toArray, List.set_cons_zero, List.set_cons_succ]
  refine wpAnyH_takeAt (i := 5) (v := ?_) rfl (by kernel_rfl) (by kernel_rfl) (by kernel_rfl) (fun _ _ _ h => h) (Or.inl ⟨by rfl, ?_⟩) h0 ?_
  rotate_left 1
  · intro w' hS; have a0 := hS.ins.c0; have a1 := hS.ins.c1; have a2 := hS.ins.c2; have a3 := hS.ins.c3; have a4 := hS.ins.c4; have a5 := hS.box.at; clear hS
    go_simp <;> with_reducible rfl
  try simp only [Act.put, List.setIfInBounds_toArray, List.set_cons_zero, List.set_cons_succ]
  refine wpAnyH_ready (rs := [6]) (by kernel_rfl) (by simp) (allReady_at rfl (fun K hK => ?_))
  go_simp
  refine (cnumber_any _ _ _ _ _ _).mono ?_
  rintro e w1 ⟨rfl, hb1⟩
  dsimp only
  have h1 : StepAt w c 2 rd rs1 rs2 imm w1 := h0.below hb1
  refine hK.out _ _ h1 (fun _ => ?_)
  clear hK K
  try simp only [Act.put, List.setIfInBounds_toArray, List.set_cons_zero, List.set_cons_succ]
  refine wpAnyH_takeAt (i := 7) (v := .int .u32 (Z.toNat : Int)) rfl (by kernel_rfl) (by kernel_rfl) (by kernel_rfl) (fun _ _ _ h => h) (Or.inl ⟨by rfl, ?_⟩) h1 ?_
  · intro w' hS; clear hS
    go_simp
  try simp only [Act.put, List.setIfInBounds_toArray, List.set_cons_zero, List.set_cons_succ]
  refine wpAnyH_ready (rs := [8]) (by kernel_rfl) (by simp) (allReady_at rfl (fun K hK => ?_))
  go_simp
  refine (jump_any c rd hrd0 hrd1 Z _).mono ?_
  rintro e w2 ⟨rfl, hb2⟩
  dsimp only
  have h2 : StepAt w c 2 rd rs1 rs2 imm w2 := h1.below hb2
  refine hK.out _ _ h2 (fun _ => ?_)
  clear hK K
  try simp only [Act.put, List.setIfInBounds_toArray, List.set_cons_zero, List.set_cons_succ]
  obtain ⟨r, hr⟩ := h2.res
  refine wpAnyH_ready (rs := [9]) (by kernel_rfl) (by simp) (allReady_at rfl (fun K hK => ?_))
  rw [if_pos (by rfl)]
  refine wp_store_row 25 _ _ rfl (w.heap.size + 2) (cells (jmp c rd Z)) rfl rfl _ _ hr (infoCs _) (cells_same _ _) (cells_one _) ?_
  have h3 := h2.row (jmp c rd Z)
  refine hK.out _ _ h3 (fun _ => ?_)
  clear hK K
  try simp only [Act.put, List.setIfInBounds_toArray, List.set_cons_zero, List.set_cons_succ]
  refine wpAnyH_takeAt (i := 10) (v := ?_) rfl (by kernel_rfl) (by kernel_rfl) (by kernel_rfl) (fun _ _ _ h => h) (Or.inl ⟨by rfl, ?_⟩) h3 ?_
  rotate_left 1
  · intro w' hS; clear hS
    go_simp <;> with_reducible rfl
  try simp only [Act.put, List.setIfInBounds_toArray, List.set_cons_zero, List.set_cons_succ]
  refine wpAnyH_done (by kernel_rfl) ?_ _
  refine NoPanic.normal ?_
  go_wp2_with fail
  have e9 : jmp c rd Z = jmp c rd (c.pc + numb imm) := by rw [HZ.out]
  rw [e9]
  exact bodyPost_ret (results_row_tmp (p := 6) (u := 7) (by kernel_rfl) _ _ (w.heap.size + 2) _ _ _ _ rfl (hr.setRow _) Try.underlying25 rfl (infoCs _)) rfl
    ⟨rfl, below_row h2.low (by omega) _⟩

set_option maxRecDepth 100000 in
set_option maxHeartbeats 4000000 in
theorem notPlain_jalr (c : Mach) (m : Value) (rd : Int) (i : Nat) (rs2 imm : Int) (hrd0 : 0 ≤ rd) (hrd1 : rd < 32) (hi : i < 32) (w : World) :
    Calls Try.prog 36 #[.agg (cells c), m, .agg #[.int .i64 3, .int .i64 rd, .int .i64 i, .int .i64 rs2, .int .i64 imm]] w fun e w' => e = .returned (.tuple #[.agg (cells (jmp c rd ((c.x i + numb imm) &&& ~~~ (BitVec.ofNat 32 1)))), .int .i64 0]) ∧ Below w.heap.size w w' := by
  have hz := zeroC
  have hi2 : (i : Int) < 32 := by omega
  obtain ⟨Z, hE, hE2, HZ⟩ := bump (c.x i) (numb imm)
  obtain ⟨Y, hY, HY⟩ : ∃ Y : BitVec 32, bits .andNot .u32 (Z.toNat : Int) 1 = (Y.toNat : Int) ∧ Hid (Y = Z &&& ~~~ (BitVec.ofNat 32 1)) := ⟨_, Wd.andNot_ Z (BitVec.ofNat 32 1), rfl⟩
  have D0 := (doesAt_start w c 3 rd i rs2 imm).step
  go_enter Try.func36, Try.ntmps36
  go_wp2_with fail
  refine wp_region_noPanic ?_
  refine wp_region_held_drew (S := StepAt w c 3 rd i rs2 imm) (by kernel_rfl) D0.drew (fun h0 => ?_)
  refine wpAnyH_takeAt (i := 0) (v := .agg (cells c)) rfl (by kernel_rfl) (by kernel_rfl) (by kernel_rfl) (fun _ _ _ h => h) (yieldsIf_row (by rfl) _ _ rfl w.heap.size rfl _ _ _ _ (fun _ h => h.box) Try.underlying25 rfl (infoCs _)) h0 ?_
  simp only [Act.put, List.setIfInBounds_toArray, List.set_cons_zero, List.set_cons_succ]
  refine wpAnyH_takeAt (i := 1) (v := ?_) rfl (by kernel_rfl) (by kernel_rfl) (by kernel_rfl) (fun _ _ _ h => h) (Or.inl ⟨by rfl, ?_⟩) h0 ?_
  rotate_left 1
  · intro w' hS; have a0 := hS.ins.c0; have a1 := hS.ins.c1; have a2 := hS.ins.c2; have a3 := hS.ins.c3; have a4 := hS.ins.c4; have a5 := hS.box.reg i hi; clear hS
    go_simp <;> with_reducible rfl
  try simp only [Act.put, List.setIfInBounds_toArray, List.set_cons_zero, List.set_cons_succ]
  refine wpAnyH_takeAt (i := 2) (v := ?_) rfl (by kernel_rfl) (by kernel_rfl) (by kernel_rfl) (fun _ _ _ h => h) (Or.inl ⟨by rfl, ?_⟩) h0 ?_
  rotate_left 1
  · intro w' hS; have a0 := hS.ins.c0; have a1 := hS.ins.c1; have a2 := hS.ins.c2; have a3 := hS.ins.c3; have a4 := hS.ins.c4; have a5 := hS.box.reg i hi; clear hS
    go_simp <;> with_reducible rfl
  try simp only [Act.put, List.setIfInBounds_toArray, List.set_cons_zero, List.set_cons_succ]
  refine wpAnyH_takeAt (i := 3) (v := ?_) rfl (by kernel_rfl) (by kernel_rfl) (by kernel_rfl) (fun _ _ _ h => h) (Or.inl ⟨by rfl, ?_⟩) h0 ?_
  rotate_left 1
  · intro w' hS; have a0 := hS.ins.c0; have a1 := hS.ins.c1; have a2 := hS.ins.c2; have a3 := hS.ins.c3; have a4 := hS.ins.c4; have a5 := hS.box.reg i hi; clear hS
    go_simp <;> with_reducible rfl
  try simp only [Act.put, List.setIfInBounds_toArray, List.set_cons_zero, List.set_cons_succ]
  refine wpAnyH_takeAt (i := 4) (v := ?_) rfl (by kernel_rfl) (by kernel_rfl) (by kernel_rfl) (fun _ _ _ h => h) (Or.inl ⟨by rfl, ?_⟩) h0 ?_
  rotate_left 1
  · intro w' hS; have a0 := hS.ins.c0; have a1 := hS.ins.c1; have a2 := hS.ins.c2; have a3 := hS.ins.c3; have a4 := hS.ins.c4; have a5 := hS.box.reg i hi; clear hS
    go_simp <;> with_reducible rfl
  try simp only [Act.put, List.setIfInBounds_toArray, List.set_cons_zero, List.set_cons_succ]
  refine wpAnyH_takeAt (i := 5) (v := ?_) rfl (by kernel_rfl) (by kernel_rfl) (by kernel_rfl) (fun _ _ _ h => h) (Or.inl ⟨by rfl, ?_⟩) h0 ?_
  rotate_left 1
  · intro w' hS; have a0 := hS.ins.c0; have a1 := hS.ins.c1; have a2 := hS.ins.c2; have a3 := hS.ins.c3; have a4 := hS.ins.c4; have a5 := hS.box.reg i hi; clear hS
    go_simp <;> with_reducible rfl
  try simp only [Act.put, List.setIfInBounds_toArray, List.set_cons_zero, List.set_cons_succ]
  refine wpAnyH_takeAt (i := 6) (v := ?_) rfl (by kernel_rfl) (by kernel_rfl) (by kernel_rfl) (fun _ _ _ h => h) (Or.inl ⟨by rfl, ?_⟩) h0 ?_
  rotate_left 1
  · intro w' hS; have a0 := hS.ins.c0; have a1 := hS.ins.c1; have a2 := hS.ins.c2; have a3 := hS.ins.c3; have a4 := hS.ins.c4; have a5 := hS.box.reg i hi; clear hS
    go_simp <;> with_reducible rfl
  try simp only [Act.put, List.setIfInBounds_toArray, List.set_cons_zero, List.set_cons_succ]
  refine wpAnyH_takeAt (i := 7) (v := ?_) rfl (by kernel_rfl) (by kernel_rfl) (by kernel_rfl) (fun _ _ _ h => h) (Or.inl ⟨by rfl, ?_⟩) h0 ?_
  rotate_left 1
  · intro w' hS; have a0 := hS.ins.c0; have a1 := hS.ins.c1; have a2 := hS.ins.c2; have a3 := hS.ins.c3; have a4 := hS.ins.c4; have a5 := hS.box.reg i hi; clear hS
    go_simp <;> with_reducible rfl
  try simp only [Act.put, List.setIfInBounds_toArray, List.set_cons_zero, List.set_cons_succ]
  refine wpAnyH_takeAt (i := 8) (v := ?_) rfl (by kernel_rfl) (by kernel_rfl) (by kernel_rfl) (fun _ _ _ h => h) (Or.inl ⟨by rfl, ?_⟩) h0 ?_
  rotate_left 1
  · intro w' hS; have a0 := hS.ins.c0; have a1 := hS.ins.c1; have a2 := hS.ins.c2; have a3 := hS.ins.c3; have a4 := hS.ins.c4; have a5 := hS.box.reg i hi; clear hS
    go_simp <;> with_reducible rfl
  try simp only [Act.put, List.setIfInBounds_toArray, List.set_cons_zero, List.set_cons_succ]
  refine wpAnyH_ready (rs := [9]) (by kernel_rfl) (by simp) (allReady_at rfl (fun K hK => ?_))
  go_simp
  refine (cnumber_any _ _ _ _ _ _).mono ?_
  rintro e w1 ⟨rfl, hb1⟩
  dsimp only
  have h1 : StepAt w c 3 rd i rs2 imm w1 := h0.below hb1
  refine hK.out _ _ h1 (fun _ => ?_)
  clear hK K
  try simp only [Act.put, List.setIfInBounds_toArray, List.set_cons_zero, List.set_cons_succ]
  refine wpAnyH_takeAt (i := 10) (v := .int .u32 (Z.toNat : Int)) rfl (by kernel_rfl) (by kernel_rfl) (by kernel_rfl) (fun _ _ _ h => h) (Or.inl ⟨by rfl, ?_⟩) h1 ?_
  · intro w' hS; clear hS
    go_simp
  try simp only [Act.put, List.setIfInBounds_toArray, List.set_cons_zero, List.set_cons_succ]
  refine wpAnyH_takeAt (i := 11) (v := .int .u32 (Y.toNat : Int)) rfl (by kernel_rfl) (by kernel_rfl) (by kernel_rfl) (fun _ _ _ h => h) (Or.inl ⟨by rfl, ?_⟩) h1 ?_
  · intro w' hS; clear hS
    go_simp
  try simp only [Act.put, List.setIfInBounds_toArray, List.set_cons_zero, List.set_cons_succ]
  refine wpAnyH_ready (rs := [12]) (by kernel_rfl) (by simp) (allReady_at rfl (fun K hK => ?_))
  go_simp
  refine (jump_any c rd hrd0 hrd1 Y _).mono ?_
  rintro e w2 ⟨rfl, hb2⟩
  dsimp only
  have h2 : StepAt w c 3 rd i rs2 imm w2 := h1.below hb2
  refine hK.out _ _ h2 (fun _ => ?_)
  clear hK K
  try simp only [Act.put, List.setIfInBounds_toArray, List.set_cons_zero, List.set_cons_succ]
  obtain ⟨r, hr⟩ := h2.res
  refine wpAnyH_ready (rs := [13]) (by kernel_rfl) (by simp) (allReady_at rfl (fun K hK => ?_))
  rw [if_pos (by rfl)]
  refine wp_store_row 25 _ _ rfl (w.heap.size + 2) (cells (jmp c rd Y)) rfl rfl _ _ hr (infoCs _) (cells_same _ _) (cells_one _) ?_
  have h3 := h2.row (jmp c rd Y)
  refine hK.out _ _ h3 (fun _ => ?_)
  clear hK K
  try simp only [Act.put, List.setIfInBounds_toArray, List.set_cons_zero, List.set_cons_succ]
  refine wpAnyH_takeAt (i := 14) (v := ?_) rfl (by kernel_rfl) (by kernel_rfl) (by kernel_rfl) (fun _ _ _ h => h) (Or.inl ⟨by rfl, ?_⟩) h3 ?_
  rotate_left 1
  · intro w' hS; clear hS
    go_simp <;> with_reducible rfl
  try simp only [Act.put, List.setIfInBounds_toArray, List.set_cons_zero, List.set_cons_succ]
  refine wpAnyH_done (by kernel_rfl) ?_ _
  refine NoPanic.normal ?_
  go_wp2_with fail
  have e9 : jmp c rd Y = jmp c rd ((c.x i + numb imm) &&& ~~~ (BitVec.ofNat 32 1)) := by rw [HY.out, HZ.out]
  rw [e9]
  exact bodyPost_ret (results_row_tmp (p := 6) (u := 7) (by kernel_rfl) _ _ (w.heap.size + 2) _ _ _ _ rfl (hr.setRow _) Try.underlying25 rfl (infoCs _)) rfl
    ⟨rfl, below_row h2.low (by omega) _⟩
end Go.Proofs.Ytilphdfobflbiaa
