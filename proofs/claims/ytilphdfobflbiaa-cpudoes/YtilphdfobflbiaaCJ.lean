/-
  What is not plain: the ends, and all together.
-/
import Derived.Test.YtilphdfobflbiaaCH
namespace Go.Proofs.Ytilphdfobflbiaa
open Go.RowKit Go.Maps Cp Ip Mm
set_option linter.unusedSimpArgs false

set_option maxRecDepth 100000 in
set_option maxHeartbeats 8000000 in
theorem notPlain_end (c : Mach) (m : Value) (op rd rs1 rs2 imm : Int) (hop : op = 45 ∨ op = 46) (w : World) :
    Calls Try.prog 36 #[.agg (cells c), m, .agg #[.int .i64 op, .int .i64 rd, .int .i64 rs1, .int .i64 rs2, .int .i64 imm]] w fun e w' => e = .returned (.tuple #[.agg (cells (if op = 45 then sp c (c.pc + (BitVec.ofNat 32 4)) else c)), .int .i64 (if op = 45 then 1 else 2)]) ∧ Below w.heap.size w w' := by
  have hz := zeroC
  obtain ⟨Q, hQ, HQ⟩ := four c.pc
  have hc0 := cells_pc c
  have hcs := cells_size c
  have hcg : (cells c)[32]'(by rw [cells_size]; omega) = .int .u32 (c.pc.toNat : Int) := by
    have := cells_pc c
    rw [Array.getElem?_eq_getElem (by rw [cells_size]; omega)] at this
    exact Option.some.inj this
  have hcq := cells_sp c Q
  rcases hop with rfl | rfl
  · have D0 := (doesAt_start w (sp c Q) 45 rd rs1 rs2 imm)
    go_enter Try.func36, Try.ntmps36
    go_wp2_with (first
      | (refine wpList_load_row rfl 25 _ rfl w.heap.size rfl _ _ _ _ D0.box Try.underlying25 rfl (infoCs _) ?_)
      | (refine wpList_store_row rfl 25 _ _ rfl (w.heap.size + 2) _ rfl rfl _ _ D0.res (infoCs _) (cells_same _ _) (cells_one _) ?_))
    have e9 : Q = c.pc + (BitVec.ofNat 32 4) := HQ.out
    subst e9
    exact bodyPost_ret (results_row_tmp (p := 6) (u := 7) (by kernel_rfl) _ _ (w.heap.size + 2) _ _ _ _ rfl (D0.res.setRow _) Try.underlying25 rfl (infoCs _)) rfl
      ⟨rfl, below_row D0.low (by omega) _⟩
  · have D0 := (doesAt_start w c 46 rd rs1 rs2 imm)
    go_enter Try.func36, Try.ntmps36
    go_wp2_with (first
      | (refine wpList_load_row rfl 25 _ rfl w.heap.size rfl _ _ _ _ D0.box Try.underlying25 rfl (infoCs _) ?_)
      | (refine wpList_store_row rfl 25 _ _ rfl (w.heap.size + 2) _ rfl rfl _ _ D0.res (infoCs _) (cells_same _ _) (cells_one _) ?_))
    exact bodyPost_ret (results_row_tmp (p := 6) (u := 7) (by kernel_rfl) _ _ (w.heap.size + 2) _ _ _ _ rfl (D0.res.setRow _) Try.underlying25 rfl (infoCs _)) rfl
      ⟨rfl, below_row D0.low (by omega) _⟩

theorem frm_47 (op : Int) (h : frm op ≠ 0) : 0 ≤ op ∧ op < 47 := by
  by_cases e : 0 ≤ op ∧ op < 47
  · exact e
  · exact absurd (frm_off op e) h
theorem right_47 {op rd rs1 rs2 imm : Int} (h : right op rd rs1 rs2 imm = true) : 0 ≤ op ∧ op < 47 := by
  unfold Ip.right at h
  simp only [Bool.and_eq_true] at h
  exact frm_47 op (of_decide_eq_true h.1.1.1.1)
theorem notPlain_any {pb bm : Nat} {l : Cs} (c : Mach) (op rd rs1 rs2 imm : Int) (hr : right op rd rs1 rs2 imm = true) (hp : isPlain op = false) (w : World) (hm : MemAt w pb bm l) :
    Calls Try.prog 36 #[.agg (cells c), .pointer (some ⟨pb, 0, none⟩), .agg #[.int .i64 op, .int .i64 rd, .int .i64 rs1, .int .i64 rs2, .int .i64 imm]] w fun e w' => e = .returned (.tuple #[.agg (cells (npM c l op rd rs1 rs2 imm)), .int .i64 (npE c op rs1 imm)]) ∧ MemAt w' pb bm (npL c l op rs1 rs2 imm) ∧ w.grownBy w' (some bm) := by
  have hf := fine_of hr
  have h47 := right_47 hr
  have hp' : ¬ (op = 0 ∨ op = 1 ∨ 18 ≤ op ∧ op ≤ 44) := of_decide_eq_false hp
  have hcase : op = 2 ∨ op = 3 ∨ (4 ≤ op ∧ op ≤ 9) ∨ (10 ≤ op ∧ op ≤ 17) ∨ (op = 45 ∨ op = 46) := by omega
  unfold npM npE npL
  rcases hcase with rfl | rfl | h | h | h
  · refine (notPlain_jal c _ rd rs1 rs2 imm hf.rd0 hf.rd1 w).mono ?_
    rintro e w' ⟨rfl, hb⟩
    exact ⟨rfl, hm.below hb, grown_of_below hb⟩
  · obtain ⟨_, d0, d1, a0, a1, b0, b1⟩ := hf
    obtain ⟨i, rfl⟩ := Int.eq_ofNat_of_zero_le a0
    refine (notPlain_jalr c _ rd i rs2 imm d0 d1 (by omega) w).mono ?_
    rintro e w' ⟨rfl, hb⟩
    exact ⟨rfl, hm.below hb, grown_of_below hb⟩
  · refine (notPlain_br c _ op rd rs1 rs2 imm h hf w).mono ?_
    rintro e w' ⟨rfl, hb⟩
    rw [if_neg (by omega), if_neg (by omega), if_pos h, if_pos (by omega), if_neg (by omega)]
    exact ⟨rfl, hm.below hb, grown_of_below hb⟩
  · refine (notPlain_acc c op rd rs1 rs2 imm h hf w hm).mono ?_
    rintro e w' ⟨rfl, h1, h2⟩
    rw [if_neg (by omega), if_neg (by omega), if_neg (by omega), if_pos h, if_neg (by omega), if_pos h, if_pos h]
    exact ⟨rfl, h1, h2⟩
  · refine (notPlain_end c _ op rd rs1 rs2 imm h w).mono ?_
    rintro e w' ⟨rfl, hb⟩
    rw [if_neg (by omega : ¬ op = 2), if_neg (by omega : ¬ op = 3), if_neg (by omega : ¬ (4 ≤ op ∧ op ≤ 9)), if_neg (by omega : ¬ (10 ≤ op ∧ op ≤ 17)), if_neg (by omega : ¬ (2 ≤ op ∧ op ≤ 9)), if_neg (by omega : ¬ (10 ≤ op ∧ op ≤ 17))]
    exact ⟨rfl, by rw [if_neg (by omega : ¬ (10 ≤ op ∧ op ≤ 17))]; exact hm.below hb, grown_of_below hb⟩
end Go.Proofs.Ytilphdfobflbiaa
