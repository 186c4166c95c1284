/-
  What is not plain; one step of a machine over a memory.
-/
import Derived.Test.YtilphdfobflbiaaCG
namespace Go.Proofs.Ytilphdfobflbiaa
open Go.RowKit Go.Maps Cp Ip Mm
set_option linter.unusedSimpArgs false

theorem MemAt.low {B : Nat} {w w' : World} {pb bm : Nat} {l : Cs} (h : MemAt w pb bm l) (hb : Below B w w') (h1 : pb < B) (h2 : bm < B) : MemAt w' pb bm l := by
  refine ⟨(hb.block pb h1).trans h.box, h.rise, ?_⟩
  obtain ⟨es, clock, q, r⟩ := h.own
  exact ⟨es, clock, (hb.block bm h2).trans q, r⟩
theorem grown_then {w W W' : World} {b : Nat} (h : w.grownBy W (some b)) (hb : Below w.heap.size W W') : w.grownBy W' (some b) :=
  ⟨hb.os.trans h.os, hb.tape.trans h.tape, hb.output.trans h.output, Nat.le_trans h.size hb.size, fun j hj hn => (hb.block j hj).trans (h.block j hj hn)⟩
theorem below_then {w W W' : World} {b : Nat} (hb : Below w.heap.size w W) (h : W.grownBy W' (some b)) : w.grownBy W' (some b) :=
  ⟨h.os.trans hb.os, h.tape.trans hb.tape, h.output.trans hb.output, Nat.le_trans hb.size h.size, fun j hj hn => (h.block j (Nat.lt_of_lt_of_le hj hb.size) hn).trans (hb.block j hj)⟩

theorem access_any {pb bm : Nat} {l : Cs} (c : Mach) (op rd rs1 rs2 imm : Int) (hop : 10 ≤ op ∧ op ≤ 17) (hf : Fine op rd rs1 rs2 imm) (w : World) (hm : MemAt w pb bm l) :
    Calls Try.prog 73 #[.agg (cells c), .pointer (some ⟨pb, 0, none⟩), .agg #[.int .i64 op, .int .i64 rd, .int .i64 rs1, .int .i64 rs2, .int .i64 imm]] w fun e w' => e = .returned (.tuple #[.agg (cells (accM c l op rd rs1 imm)), .int .i64 (accE c op rs1 imm)]) ∧ MemAt w' pb bm (accL c l op rs1 rs2 imm) ∧ w.grownBy w' (some bm) := by
  obtain ⟨_, d0, d1, a0, a1, b0, b1⟩ := hf
  obtain ⟨i, rfl⟩ := Int.eq_ofNat_of_zero_le a0
  obtain ⟨j, rfl⟩ := Int.eq_ofNat_of_zero_le b0
  have hi : i < 32 := by omega
  have hj : j < 32 := by omega
  unfold accM accE accL
  cases hk : accOk c op i imm with
  | false =>
    have hA : ((accA c i imm).toNat : Int) % wN op ≠ 0 := of_decide_eq_false hk
    refine (access_bad c _ op rd i j imm hop hi hA w).mono ?_
    rintro e w' ⟨rfl, hb⟩
    exact ⟨rfl, by simpa using hm.below hb, grown_of_below hb⟩
  | true =>
    have hA : ((accA c i imm).toNat : Int) % wN op = 0 := of_decide_eq_true hk
    by_cases h15 : 15 ≤ op
    · refine (access_store c op rd i j imm ⟨h15, hop.2⟩ hi hj hA w hm).mono ?_
      rintro e w' ⟨rfl, h1, h2⟩
      simp only [h15, if_true, and_self]
      exact ⟨trivial, by rw [Int.toNat_natCast]; exact h1, h2⟩
    · refine (access_load c op rd i j imm ⟨hop.1, by omega⟩ hi d0 d1 hA w hm).mono ?_
      rintro e w' ⟨rfl, hb⟩
      simp only [h15, if_true, if_false, and_false]
      exact ⟨trivial, hm.below hb, grown_of_below hb⟩

def npM (c : Mach) (l : Cs) (op rd rs1 rs2 imm : Int) : Mach :=
  if op = 2 then jmp c rd (c.pc + numb imm) else if op = 3 then jmp c rd ((c.x rs1.toNat + numb imm) &&& ~~~ (BitVec.ofNat 32 1))
  else if 4 ≤ op ∧ op ≤ 9 then brM c op rs1 rs2 imm else if 10 ≤ op ∧ op ≤ 17 then accM c l op rd rs1 imm
  else if op = 45 then sp c (c.pc + (BitVec.ofNat 32 4)) else c
def npE (c : Mach) (op rs1 imm : Int) : Int :=
  if 2 ≤ op ∧ op ≤ 9 then 0 else if 10 ≤ op ∧ op ≤ 17 then accE c op rs1 imm else if op = 45 then 1 else 2
def npL (c : Mach) (l : Cs) (op rs1 rs2 imm : Int) : Cs := if 10 ≤ op ∧ op ≤ 17 then accL c l op rs1 rs2 imm else l

set_option maxRecDepth 100000 in
set_option maxHeartbeats 8000000 in
theorem notPlain_br (c : Mach) (m : Value) (op rd rs1 rs2 imm : Int) (hop : 4 ≤ op ∧ op ≤ 9) (hf : Fine op rd rs1 rs2 imm) (w : World) :
    Calls Try.prog 36 #[.agg (cells c), m, .agg #[.int .i64 op, .int .i64 rd, .int .i64 rs1, .int .i64 rs2, .int .i64 imm]] w fun e w' => e = .returned (.tuple #[.agg (cells (brM c op rs1 rs2 imm)), .int .i64 0]) ∧ Below w.heap.size w w' := by
  have hz := zeroC
  obtain ⟨_, d0, d1, a0, a1, b0, b1⟩ := hf
  obtain ⟨i, rfl⟩ := Int.eq_ofNat_of_zero_le a0
  obtain ⟨j, rfl⟩ := Int.eq_ofNat_of_zero_le b0
  have hi : i < 32 := by omega
  have hj : j < 32 := by omega
  have D0 := (doesAt_start w c op rd i j imm)
  have h6 : op = 4 ∨ op = 5 ∨ op = 6 ∨ op = 7 ∨ op = 8 ∨ op = 9 := by omega
  rcases h6 with rfl | rfl | rfl | rfl | rfl | rfl
  all_goals
    go_enter Try.func36, Try.ntmps36
    go_wp2_with (first
      | (refine wpList_load_row rfl 25 _ rfl w.heap.size rfl _ _ _ _ D0.box Try.underlying25 rfl (infoCs _) ?_))
    refine (branch_any c _ rd i j imm hop hi hj _).mono ?_
    rintro e w1 ⟨rfl, hb1⟩
    have D1 := D0.below hb1
    go_wp2_with (first
      | (refine wpList_store_row rfl 25 _ _ rfl (w.heap.size + 2) _ rfl rfl _ _ D1.res (infoCs _) (cells_same _ _) (cells_one _) ?_))
    exact bodyPost_ret (results_row_tmp (p := 6) (u := 7) (by kernel_rfl) _ _ (w.heap.size + 2) _ _ _ _ rfl (D1.res.setRow _) Try.underlying25 rfl (infoCs _)) rfl
      ⟨rfl, below_row D1.low (by omega) _⟩

set_option maxRecDepth 100000 in
set_option maxHeartbeats 8000000 in
theorem notPlain_acc {pb bm : Nat} {l : Cs} (c : Mach) (op rd rs1 rs2 imm : Int) (hop : 10 ≤ op ∧ op ≤ 17) (hf : Fine op rd rs1 rs2 imm) (w : World) (hm : MemAt w pb bm l) :
    Calls Try.prog 36 #[.agg (cells c), .pointer (some ⟨pb, 0, none⟩), .agg #[.int .i64 op, .int .i64 rd, .int .i64 rs1, .int .i64 rs2, .int .i64 imm]] w fun e w' => e = .returned (.tuple #[.agg (cells (accM c l op rd rs1 imm)), .int .i64 (accE c op rs1 imm)]) ∧ MemAt w' pb bm (accL c l op rs1 rs2 imm) ∧ w.grownBy w' (some bm) := by
  have hz := zeroC
  have D0 := (doesAt_start w c op rd rs1 rs2 imm)
  have hl := hm.lt
  have hl' := hm.lt'
  have hm0 := hm.low D0.low hl hl'
  have h8 : op = 10 ∨ op = 11 ∨ op = 12 ∨ op = 13 ∨ op = 14 ∨ op = 15 ∨ op = 16 ∨ op = 17 := by omega
  rcases h8 with rfl | rfl | rfl | rfl | rfl | rfl | rfl | rfl
  all_goals
    go_enter Try.func36, Try.ntmps36
    go_wp2_with (first
      | (refine wpList_load_row rfl 25 _ rfl w.heap.size rfl _ _ _ _ D0.box Try.underlying25 rfl (infoCs _) ?_))
    refine (access_any c _ rd rs1 rs2 imm hop hf _ hm0).mono ?_
    rintro e w1 ⟨rfl, hm1, hg1⟩
    have r1 : BoxC w1 (w.heap.size + 2) nought := Box.grown D0.res hg1 (by omega)
    have l1 := below_then D0.low hg1
    clear hg1
    go_wp2_with (first
      | (refine wpList_store_row rfl 25 _ _ rfl (w.heap.size + 2) _ rfl rfl _ _ r1 (infoCs _) (cells_same _ _) (cells_one _) ?_))
    have l2 : ∀ cs, Below w.heap.size w1 (w1.setRow (w.heap.size + 2) cs) := fun cs => below_row (Below.refl _ _) (by omega) _
    exact bodyPost_ret (results_row_tmp (p := 6) (u := 7) (by kernel_rfl) _ _ (w.heap.size + 2) _ _ _ _ rfl (r1.setRow _) Try.underlying25 rfl (infoCs _)) rfl
      ⟨rfl, hm1.low (l2 _) hl hl', grown_then l1 (l2 _)⟩

end Go.Proofs.Ytilphdfobflbiaa
