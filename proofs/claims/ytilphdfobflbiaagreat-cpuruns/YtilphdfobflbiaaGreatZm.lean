/-
  What is not plain; one step of a machine over a memory.
  What is not plain: the ends, and all together.
  One step of a machine over a memory: what it answers, and the memory then.
  What the outside is asked: called.
  A run of a machine, plainly; what stays while it is made.
-/
import Derived.Laws.CopyOwn
import Derived.Great.BuildSlice
import Derived.OwnWalk
import Derived.Deep.Onto
import Derived.Test.YtilphdfobflbiaaGreatZl
namespace Go.Proofs.YtilphdfobflbiaaGreat
open Go.RowKit Go.Maps Cp Ip Mm
set_option linter.unusedSimpArgs false

theorem MemAt.low {B : Nat} {w w' : World} {pb bm : Nat} {l : Cs} (h : MemAt w pb bm l) (hb : Below B w w') (h1 : pb < B) (h2 : bm < B) : MemAt w' pb bm l := by
  refine ⟨(hb.block pb h1).trans h.box, h.rise, ?_⟩
  obtain ⟨es, clock, q, r⟩ := h.own
  exact ⟨es, clock, (hb.block bm h2).trans q, r⟩
theorem grown_then {w W W' : World} {b : Nat} (h : w.grownBy W (some b)) (hb : Below w.heap.size W W') : w.grownBy W' (some b) :=
  ⟨hb.os.trans h.os, hb.tape.trans h.tape, hb.output.trans h.output, Nat.le_trans h.size hb.size, fun j hj hn => (hb.block j hj).trans (h.block j hj hn)⟩
theorem below_then {w W W' : World} {b : Nat} (hb : Below w.heap.size w W) (h : W.grownBy W' (some b)) : w.grownBy W' (some b) :=
  ⟨h.os.trans hb.os, h.tape.trans hb.tape, h.output.trans hb.output, Nat.le_trans hb.size h.size, fun j hj hn => (h.block j (Nat.lt_of_lt_of_le hj hb.size) hn).trans (hb.block j hj)⟩

theorem access_any {pb bm : Nat} {l : Cs} (c : Mach) (op rd rs1 rs2 imm : Int) (hop : 10 ≤ op ∧ op ≤ 17) (hf : Fine op rd rs1 rs2 imm) (w : World) (hm : MemAt w pb bm l) :
    Calls Tryz.prog 47 #[.agg (cells c), .pointer (some ⟨pb, 0, none⟩), .agg #[.int .i64 op, .int .i64 rd, .int .i64 rs1, .int .i64 rs2, .int .i64 imm]] w fun e w' => e = .returned (.tuple #[.agg (cells (accM c l op rd rs1 imm)), .int .i64 (accE c op rs1 imm)]) ∧ MemAt w' pb bm (accL c l op rs1 rs2 imm) ∧ w.grownBy w' (some bm) := by
  obtain ⟨_, d0, d1, a0, a1, b0, b1⟩ := hf
  obtain ⟨i, rfl⟩ := Int.eq_ofNat_of_zero_le a0
  obtain ⟨j, rfl⟩ := Int.eq_ofNat_of_zero_le b0
  have hi : i < 32 := by omega
  have hj : j < 32 := by omega
  unfold accM accE accL
  cases hk : accOk c op i imm with
  | false =>
    have hA : ((accA c i imm).toNat : Int) % wN op ≠ 0 := of_decide_eq_false hk
    refine (access_bad c _ op rd i j imm hop hi hA w).mono ?_
    rintro e w' ⟨rfl, hb⟩
    exact ⟨rfl, by simpa using hm.below hb, grown_of_below hb⟩
  | true =>
    have hA : ((accA c i imm).toNat : Int) % wN op = 0 := of_decide_eq_true hk
    by_cases h15 : 15 ≤ op
    · refine (access_store c op rd i j imm ⟨h15, hop.2⟩ hi hj hA w hm).mono ?_
      rintro e w' ⟨rfl, h1, h2⟩
      simp only [h15, if_true, and_self]
      exact ⟨trivial, by rw [Int.toNat_natCast]; exact h1, h2⟩
    · refine (access_load c op rd i j imm ⟨hop.1, by omega⟩ hi d0 d1 hA w hm).mono ?_
      rintro e w' ⟨rfl, hb⟩
      simp only [h15, if_true, if_false, and_false]
      exact ⟨trivial, hm.below hb, grown_of_below hb⟩

def npM (c : Mach) (l : Cs) (op rd rs1 rs2 imm : Int) : Mach :=
  if op = 2 then jmp c rd (c.pc + numb imm) else if op = 3 then jmp c rd ((c.x rs1.toNat + numb imm) &&& ~~~ (BitVec.ofNat 32 1))
  else if 4 ≤ op ∧ op ≤ 9 then brM c op rs1 rs2 imm else if 10 ≤ op ∧ op ≤ 17 then accM c l op rd rs1 imm
  else if op = 45 then sp c (c.pc + (BitVec.ofNat 32 4)) else c
def npE (c : Mach) (op rs1 imm : Int) : Int :=
  if 2 ≤ op ∧ op ≤ 9 then 0 else if 10 ≤ op ∧ op ≤ 17 then accE c op rs1 imm else if op = 45 then 1 else 2
def npL (c : Mach) (l : Cs) (op rs1 rs2 imm : Int) : Cs := if 10 ≤ op ∧ op ≤ 17 then accL c l op rs1 rs2 imm else l

set_option maxRecDepth 100000 in
set_option maxHeartbeats 8000000 in
theorem notPlain_br (c : Mach) (m : Value) (op rd rs1 rs2 imm : Int) (hop : 4 ≤ op ∧ op ≤ 9) (hf : Fine op rd rs1 rs2 imm) (w : World) :
    Calls Tryz.prog 21 #[.agg (cells c), m, .agg #[.int .i64 op, .int .i64 rd, .int .i64 rs1, .int .i64 rs2, .int .i64 imm]] w fun e w' => e = .returned (.tuple #[.agg (cells (brM c op rs1 rs2 imm)), .int .i64 0]) ∧ Below w.heap.size w w' := by
  have hz := zeroC
  obtain ⟨_, d0, d1, a0, a1, b0, b1⟩ := hf
  obtain ⟨i, rfl⟩ := Int.eq_ofNat_of_zero_le a0
  obtain ⟨j, rfl⟩ := Int.eq_ofNat_of_zero_le b0
  have hi : i < 32 := by omega
  have hj : j < 32 := by omega
  have D0 := (doesAt_start w c op rd i j imm)
  have h6 : op = 4 ∨ op = 5 ∨ op = 6 ∨ op = 7 ∨ op = 8 ∨ op = 9 := by omega
  rcases h6 with rfl | rfl | rfl | rfl | rfl | rfl
  all_goals
    go_enter Tryz.func21, Tryz.ntmps21
    go_wp2_with (first
      | (refine wpList_load_row rfl 25 _ rfl w.heap.size rfl _ _ _ _ D0.box Tryz.underlying25 rfl (infoCs _) ?_))
    refine (branch_any c _ rd i j imm hop hi hj _).mono ?_
    rintro e w1 ⟨rfl, hb1⟩
    have D1 := D0.below hb1
    go_wp2_with (first
      | (refine wpList_store_row rfl 25 _ _ rfl (w.heap.size + 2) _ rfl rfl _ _ D1.res (infoCs _) (cells_same _ _) (cells_one _) ?_))
    exact bodyPost_ret (results_row_tmp (p := 6) (u := 7) (by kernel_rfl) _ _ (w.heap.size + 2) _ _ _ _ rfl (D1.res.setRow _) Tryz.underlying25 rfl (infoCs _)) rfl
      ⟨rfl, below_row D1.low (by omega) _⟩

set_option maxRecDepth 100000 in
set_option maxHeartbeats 8000000 in
theorem notPlain_acc {pb bm : Nat} {l : Cs} (c : Mach) (op rd rs1 rs2 imm : Int) (hop : 10 ≤ op ∧ op ≤ 17) (hf : Fine op rd rs1 rs2 imm) (w : World) (hm : MemAt w pb bm l) :
    Calls Tryz.prog 21 #[.agg (cells c), .pointer (some ⟨pb, 0, none⟩), .agg #[.int .i64 op, .int .i64 rd, .int .i64 rs1, .int .i64 rs2, .int .i64 imm]] w fun e w' => e = .returned (.tuple #[.agg (cells (accM c l op rd rs1 imm)), .int .i64 (accE c op rs1 imm)]) ∧ MemAt w' pb bm (accL c l op rs1 rs2 imm) ∧ w.grownBy w' (some bm) := by
  have hz := zeroC
  have D0 := (doesAt_start w c op rd rs1 rs2 imm)
  have hl := hm.lt
  have hl' := hm.lt'
  have hm0 := hm.low D0.low hl hl'
  have h8 : op = 10 ∨ op = 11 ∨ op = 12 ∨ op = 13 ∨ op = 14 ∨ op = 15 ∨ op = 16 ∨ op = 17 := by omega
  rcases h8 with rfl | rfl | rfl | rfl | rfl | rfl | rfl | rfl
  all_goals
    go_enter Tryz.func21, Tryz.ntmps21
    go_wp2_with (first
      | (refine wpList_load_row rfl 25 _ rfl w.heap.size rfl _ _ _ _ D0.box Tryz.underlying25 rfl (infoCs _) ?_))
    refine (access_any c _ rd rs1 rs2 imm hop hf _ hm0).mono ?_
    rintro e w1 ⟨rfl, hm1, hg1⟩
    have r1 : BoxC w1 (w.heap.size + 2) nought := Box.grown D0.res hg1 (by omega)
    have l1 := below_then D0.low hg1
    clear hg1
    go_wp2_with (first
      | (refine wpList_store_row rfl 25 _ _ rfl (w.heap.size + 2) _ rfl rfl _ _ r1 (infoCs _) (cells_same _ _) (cells_one _) ?_))
    have l2 : ∀ cs, Below w.heap.size w1 (w1.setRow (w.heap.size + 2) cs) := fun cs => below_row (Below.refl _ _) (by omega) _
    exact bodyPost_ret (results_row_tmp (p := 6) (u := 7) (by kernel_rfl) _ _ (w.heap.size + 2) _ _ _ _ rfl (r1.setRow _) Tryz.underlying25 rfl (infoCs _)) rfl
      ⟨rfl, hm1.low (l2 _) hl hl', grown_then l1 (l2 _)⟩

end Go.Proofs.YtilphdfobflbiaaGreat
namespace Go.Proofs.YtilphdfobflbiaaGreat
open Go.RowKit Go.Maps Cp Ip Mm
set_option linter.unusedSimpArgs false

set_option maxRecDepth 100000 in
set_option maxHeartbeats 8000000 in
theorem notPlain_end (c : Mach) (m : Value) (op rd rs1 rs2 imm : Int) (hop : op = 45 ∨ op = 46) (w : World) :
    Calls Tryz.prog 21 #[.agg (cells c), m, .agg #[.int .i64 op, .int .i64 rd, .int .i64 rs1, .int .i64 rs2, .int .i64 imm]] w fun e w' => e = .returned (.tuple #[.agg (cells (if op = 45 then sp c (c.pc + (BitVec.ofNat 32 4)) else c)), .int .i64 (if op = 45 then 1 else 2)]) ∧ Below w.heap.size w w' := by
  have hz := zeroC
  obtain ⟨Q, hQ, HQ⟩ := four c.pc
  have hc0 := cells_pc c
  have hcs := cells_size c
  have hcg : (cells c)[32]'(by rw [cells_size]; omega) = .int .u32 (c.pc.toNat : Int) := by
    have := cells_pc c
    rw [Array.getElem?_eq_getElem (by rw [cells_size]; omega)] at this
    exact Option.some.inj this
  have hcq := cells_sp c Q
  rcases hop with rfl | rfl
  · have D0 := (doesAt_start w (sp c Q) 45 rd rs1 rs2 imm)
    go_enter Tryz.func21, Tryz.ntmps21
    go_wp2_with (first
      | (refine wpList_load_row rfl 25 _ rfl w.heap.size rfl _ _ _ _ D0.box Tryz.underlying25 rfl (infoCs _) ?_)
      | (refine wpList_store_row rfl 25 _ _ rfl (w.heap.size + 2) _ rfl rfl _ _ D0.res (infoCs _) (cells_same _ _) (cells_one _) ?_))
    have e9 : Q = c.pc + (BitVec.ofNat 32 4) := HQ.out
    subst e9
    exact bodyPost_ret (results_row_tmp (p := 6) (u := 7) (by kernel_rfl) _ _ (w.heap.size + 2) _ _ _ _ rfl (D0.res.setRow _) Tryz.underlying25 rfl (infoCs _)) rfl
      ⟨rfl, below_row D0.low (by omega) _⟩
  · have D0 := (doesAt_start w c 46 rd rs1 rs2 imm)
    go_enter Tryz.func21, Tryz.ntmps21
    go_wp2_with (first
      | (refine wpList_load_row rfl 25 _ rfl w.heap.size rfl _ _ _ _ D0.box Tryz.underlying25 rfl (infoCs _) ?_)
      | (refine wpList_store_row rfl 25 _ _ rfl (w.heap.size + 2) _ rfl rfl _ _ D0.res (infoCs _) (cells_same _ _) (cells_one _) ?_))
    exact bodyPost_ret (results_row_tmp (p := 6) (u := 7) (by kernel_rfl) _ _ (w.heap.size + 2) _ _ _ _ rfl (D0.res.setRow _) Tryz.underlying25 rfl (infoCs _)) rfl
      ⟨rfl, below_row D0.low (by omega) _⟩

theorem frm_47 (op : Int) (h : frm op ≠ 0) : 0 ≤ op ∧ op < 47 := by
  by_cases e : 0 ≤ op ∧ op < 47
  · exact e
  · exact absurd (frm_off op e) h
theorem right_47 {op rd rs1 rs2 imm : Int} (h : right op rd rs1 rs2 imm = true) : 0 ≤ op ∧ op < 47 := by
  unfold Ip.right at h
  simp only [Bool.and_eq_true] at h
  exact frm_47 op (of_decide_eq_true h.1.1.1.1)
theorem notPlain_any {pb bm : Nat} {l : Cs} (c : Mach) (op rd rs1 rs2 imm : Int) (hr : right op rd rs1 rs2 imm = true) (hp : isPlain op = false) (w : World) (hm : MemAt w pb bm l) :
    Calls Tryz.prog 21 #[.agg (cells c), .pointer (some ⟨pb, 0, none⟩), .agg #[.int .i64 op, .int .i64 rd, .int .i64 rs1, .int .i64 rs2, .int .i64 imm]] w fun e w' => e = .returned (.tuple #[.agg (cells (npM c l op rd rs1 rs2 imm)), .int .i64 (npE c op rs1 imm)]) ∧ MemAt w' pb bm (npL c l op rs1 rs2 imm) ∧ w.grownBy w' (some bm) := by
  have hf := fine_of hr
  have h47 := right_47 hr
  have hp' : ¬ (op = 0 ∨ op = 1 ∨ 18 ≤ op ∧ op ≤ 44) := of_decide_eq_false hp
  have hcase : op = 2 ∨ op = 3 ∨ (4 ≤ op ∧ op ≤ 9) ∨ (10 ≤ op ∧ op ≤ 17) ∨ (op = 45 ∨ op = 46) := by omega
  unfold npM npE npL
  rcases hcase with rfl | rfl | h | h | h
  · refine (notPlain_jal c _ rd rs1 rs2 imm hf.rd0 hf.rd1 w).mono ?_
    rintro e w' ⟨rfl, hb⟩
    exact ⟨rfl, hm.below hb, grown_of_below hb⟩
  · obtain ⟨_, d0, d1, a0, a1, b0, b1⟩ := hf
    obtain ⟨i, rfl⟩ := Int.eq_ofNat_of_zero_le a0
    refine (notPlain_jalr c _ rd i rs2 imm d0 d1 (by omega) w).mono ?_
    rintro e w' ⟨rfl, hb⟩
    exact ⟨rfl, hm.below hb, grown_of_below hb⟩
  · refine (notPlain_br c _ op rd rs1 rs2 imm h hf w).mono ?_
    rintro e w' ⟨rfl, hb⟩
    rw [if_neg (by omega), if_neg (by omega), if_pos h, if_pos (by omega), if_neg (by omega)]
    exact ⟨rfl, hm.below hb, grown_of_below hb⟩
  · refine (notPlain_acc c op rd rs1 rs2 imm h hf w hm).mono ?_
    rintro e w' ⟨rfl, h1, h2⟩
    rw [if_neg (by omega), if_neg (by omega), if_neg (by omega), if_pos h, if_neg (by omega), if_pos h, if_pos h]
    exact ⟨rfl, h1, h2⟩
  · refine (notPlain_end c _ op rd rs1 rs2 imm h w).mono ?_
    rintro e w' ⟨rfl, hb⟩
    rw [if_neg (by omega : ¬ op = 2), if_neg (by omega : ¬ op = 3), if_neg (by omega : ¬ (4 ≤ op ∧ op ≤ 9)), if_neg (by omega : ¬ (10 ≤ op ∧ op ≤ 17)), if_neg (by omega : ¬ (2 ≤ op ∧ op ≤ 9)), if_neg (by omega : ¬ (10 ≤ op ∧ op ≤ 17))]
    exact ⟨rfl, by rw [if_neg (by omega : ¬ (10 ≤ op ∧ op ≤ 17))]; exact hm.below hb, grown_of_below hb⟩
end Go.Proofs.YtilphdfobflbiaaGreat
namespace Go.Proofs.YtilphdfobflbiaaGreat
open Go.RowKit Go.Maps Cp Ip Mm
set_option linter.unusedSimpArgs false

def deck (x : BitVec 32) : Option Nat := (List.range 47).find? (fun k => asked x k)
theorem deck_some {x : BitVec 32} {k : Nat} (h : deck x = some k) : k < 47 ∧ asked x k = true :=
  ⟨List.mem_range.1 (List.mem_of_find?_eq_some h), by simpa using List.find?_some h⟩
theorem deck_none {x : BitVec 32} (h : deck x = none) (k : Nat) (hk : k < 47) : asked x k = false := by
  have := List.find?_eq_none.1 h k (List.mem_range.2 hk)
  simpa using this
def fRd (x : BitVec 32) (k : Nat) : Int := regIf (hRd (kf k)) x 7
def fRs1 (x : BitVec 32) (k : Nat) : Int := regIf (hRs1 (kf k)) x 15
def fRs2 (x : BitVec 32) (k : Nat) : Int := regIf (hRs2 (kf k)) x 20
def fImm (x : BitVec 32) (k : Nat) : Int := number x (kf k)
def wordAt (l : Cs) (p : BitVec 32) : BitVec 32 := BitVec.ofInt 32 (Mm.num l (p.toNat : Int) 4)
/-- The machine, how it ended, the memory. -/
structure Out where
  c : Mach
  e : Int
  l : Cs
def insM (c : Mach) (l : Cs) (op rd rs1 rs2 imm : Int) : Out :=
  if isPlain op = true then ⟨doesM c op rd rs1 rs2 imm, 0, l⟩ else ⟨npM c l op rd rs1 rs2 imm, npE c op rs1 imm, npL c l op rs1 rs2 imm⟩
def stepM (c : Mach) (l : Cs) : Out :=
  if (c.pc.toNat : Int) % 4 ≠ 0 then ⟨zr c, 4, l⟩ else
  match deck (wordAt l c.pc) with
  | none => ⟨zr c, 3, l⟩
  | some k => insM (zr c) l k (fRd (wordAt l c.pc) k) (fRs1 (wordAt l c.pc) k) (fRs2 (wordAt l c.pc) k) (fImm (wordAt l c.pc) k)

theorem again_right (k : Nat) (h : k < 47) (x : BitVec 32) (ha : asked x k = true) : right (k : Int) (fRd x k) (fRs1 x k) (fRs2 x k) (fImm x k) = true := (again k h x ha).1
theorem word_num {l : Cs} (h : Rise l) (p : BitVec 32) : Mm.num l (p.toNat : Int) 4 = ((wordAt l p).toNat : Int) := by
  have hb := num_range h (p.toNat : Int) 4
  obtain ⟨V, e⟩ := Wd.of_int (Mm.num l (p.toNat : Int) 4) hb.1 (by omega)
  unfold wordAt
  rw [e, BitVec.ofInt_natCast, BitVec.ofNat_toNat, BitVec.setWidth_eq]

/-- While a step is made: the machine's box, that of the answer, the memory. -/
structure At2 (w : World) (c r : Mach) (pb bm : Nat) (l : Cs) (W : World) : Prop where
  box : BoxC W w.heap.size c
  res : BoxC W (w.heap.size + 1) r
  mem : MemAt W pb bm l
  low : Below w.heap.size w W
theorem At2.below {w W W' : World} {c r : Mach} {pb bm : Nat} {l : Cs} (h : At2 w c r pb bm l W) (hb : Below W.heap.size W W') : At2 w c r pb bm l W' :=
  ⟨h.box.below hb, h.res.below hb, h.mem.below hb, h.low.trans (hb.mono h.low.size)⟩
theorem At2.alloc {w W : World} {c r : Mach} {pb bm : Nat} {l : Cs} (h : At2 w c r pb bm l W) (o : Obj) : At2 w c r pb bm l (W.alloc o) := h.below ((Below.refl _ _).alloc (Nat.le_refl _) _)
theorem at2_start (w : World) (c : Mach) {pb bm : Nat} {l : Cs} (hm : MemAt w pb bm l) : At2 w c nought pb bm l ((w.alloc (.cells (cells c) 25)).alloc (.cells (cells nought) 25)) := by
  have r := Box.new (t := 25) (w.alloc (.cells (cells c) 25)) nought
  simp only [World.size_alloc] at r
  have lo : Below w.heap.size w ((w.alloc (.cells (cells c) 25)).alloc (.cells (cells nought) 25)) := ((Below.refl _ _).alloc (Nat.le_refl _) _).alloc (by simp) _
  exact ⟨(Box.new w c).alloc _, r, hm.below lo, lo⟩

set_option maxRecDepth 100000 in
set_option maxHeartbeats 8000000 in
theorem step_any {pb bm : Nat} {l : Cs} (c : Mach) (w : World) (hm : MemAt w pb bm l) :
    Calls Tryz.prog 6 #[.agg (cells c), .pointer (some ⟨pb, 0, none⟩)] w fun e w' => e = .returned (.tuple #[.agg (cells (stepM c l).c), .int .i64 (stepM c l).e]) ∧ MemAt w' pb bm (stepM c l).l ∧ w.grownBy w' (some bm) := by
  have hz := zeroC
  have hc0 : ((cells c)[0]?) = some (.int .u32 ((c.x 0).toNat : Int)) := cells_x c 0 (by omega)
  have hcs := cells_size c
  have hcz := cells_zr c
  have A0 := at2_start w (zr c) hm
  have hpc : (cells (zr c))[32]? = some (.int .u32 (c.pc.toNat : Int)) := cells_pc (zr c)
  have hl := hm.lt
  have hl' := hm.lt'
  by_cases h4 : (c.pc.toNat : Int) % 4 = 0
  · have ht : ((c.pc.toNat : Int) % 4 != 0) = false := by simpa using h4
    go_enter Tryz.func6, Tryz.ntmps6
    go_wp2_with fail
    refine (load_any _ A0.mem ⟨by omega, Wd.lt c.pc⟩ (Or.inr (Or.inr rfl))).mono ?_
    rintro e w1 ⟨rfl, rfl⟩
    have hn : Mm.num l (c.pc.toNat : Int) (Int.toNat 4) = ((wordAt l c.pc).toNat : Int) := word_num hm.rise c.pc
    have HS : Hid (stepM c l = match deck (wordAt l c.pc) with | none => ⟨zr c, 3, l⟩ | some k => insM (zr c) l k (fRd (wordAt l c.pc) k) (fRs1 (wordAt l c.pc) k) (fRs2 (wordAt l c.pc) k) (fImm (wordAt l c.pc) k)) := by
      show stepM c l = _
      unfold stepM; rw [if_neg (by simpa using h4)]
    rw [hn]
    clear hn hc0 hcs hcz hpc
    generalize wordAt l c.pc = X at HS ⊢
    cases hd : deck X with
    | none =>
      rw [hd] at HS
      have hno := deck_none hd
      go_wp2_with fail
      refine (decode_none X hno _).mono ?_
      rintro e w2 ⟨rfl, hb2⟩
      have A2 := (A0.below hb2).alloc (.cells #[.int .i64 0, .int .i64 0, .int .i64 0, .int .i64 0, .int .i64 0] 55)
      clear hb2 hno hd A0
      go_wp2_with (first
        | (refine wpList_load_row rfl 25 _ rfl w.heap.size rfl _ _ _ _ A2.box Tryz.underlying25 rfl (infoCs _) ?_)
        | (refine wpList_store_row rfl 25 _ _ rfl (w.heap.size + 1) _ rfl rfl _ _ A2.res (infoCs _) (cells_same _ _) (cells_one _) ?_))
      rw [HS.out]
      have lo := below_row A2.low (by omega : w.heap.size ≤ w.heap.size + 1) (cells (zr c))
      exact bodyPost_ret (results_row_tmp (p := 4) (u := 5) (by kernel_rfl) _ _ (w.heap.size + 1) _ _ _ _ rfl (A2.res.setRow _) Tryz.underlying25 rfl (infoCs _)) rfl
        ⟨rfl, hm.below lo, grown_of_below lo⟩
    | some k =>
      rw [hd] at HS
      obtain ⟨hk, ha⟩ := deck_some hd
      have hr := again_right k hk X ha
      go_wp2_with fail
      refine (decode_kind X k hk ha _).mono ?_
      rintro e w2 ⟨rfl, hb2⟩
      have A2 := (A0.below hb2)
      clear hb2 hd A0 ha
      change Hid (stepM c l = insM (zr c) l k (fRd X k) (fRs1 X k) (fRs2 X k) (fImm X k)) at HS
      have e1 : regIf (hRd (kf k)) X 7 = fRd X k := rfl
      have e2 : regIf (hRs1 (kf k)) X 15 = fRs1 X k := rfl
      have e3 : regIf (hRs2 (kf k)) X 20 = fRs2 X k := rfl
      have e4 : number X (kf k) = fImm X k := rfl
      rw [e1, e2, e3, e4]
      clear e1 e2 e3 e4
      generalize fRd X k = rd at HS hr ⊢
      generalize fRs1 X k = rs1 at HS hr ⊢
      generalize fRs2 X k = rs2 at HS hr ⊢
      generalize fImm X k = imm at HS hr ⊢
      have hpr : doesB (k : Int) rd rs1 rs2 imm = isPlain (k : Int) := by unfold doesB; rw [hr]; rfl
      have A3 := A2.alloc (.cells #[.int .i64 (k : Int), .int .i64 rd, .int .i64 rs1, .int .i64 rs2, .int .i64 imm] 55)
      have I3 := InsAt.new w2 k rd rs1 rs2 imm 55
      go_wp2_with (first
        | (refine wpList_load_row rfl 25 _ rfl w.heap.size rfl _ _ _ _ A3.box Tryz.underlying25 rfl (infoCs _) ?_))
      refine (does_any4 (zr c) k rd rs1 rs2 imm _).mono ?_
      rintro e w3 ⟨rfl, hb3⟩
      have A4 := A3.below hb3
      have I4 := I3.below hb3
      rw [hpr]
      clear hb3 A3 I3 A2
      cases hp : isPlain (k : Int) with
      | true =>
        have HO : Hid (stepM c l = ⟨doesM (zr c) k rd rs1 rs2 imm, 0, l⟩) := by
          show stepM c l = _
          rw [HS.out]; unfold insM; rw [if_pos hp]
        clear hp hpr HS
        have A5 := A4.alloc (.cells (cells nought) 25)
        have N5 := Box.new (t := 25) w3 nought
        have N6 := N5.setRow (doesM (zr c) k rd rs1 rs2 imm)
        have R6 := A5.res.otherRow w3.heap.size (cells (doesM (zr c) k rd rs1 rs2 imm)) (by have := A4.res.lt; omega)
        have hlt := A4.res.lt
        have lo6 : Below w.heap.size w ((w3.alloc (.cells (cells nought) 25)).setRow w3.heap.size (cells (doesM (zr c) k rd rs1 rs2 imm))) := below_row A5.low (by omega) _
        go_wp2_with (first
          | (refine wpList_load_row rfl 25 _ rfl w3.heap.size rfl _ _ _ _ N6 Tryz.underlying25 rfl (infoCs _) ?_)
          | (refine wpList_store_row rfl 25 _ _ rfl w3.heap.size _ rfl rfl _ _ N5 (infoCs _) (cells_same _ _) (cells_one _) ?_)
          | (refine wpList_store_row rfl 25 _ _ rfl (w.heap.size + 1) _ rfl rfl _ _ R6 (infoCs _) (cells_same _ _) (cells_one _) ?_))
        rw [HO.out]
        have lo := below_row lo6 (by omega : w.heap.size ≤ w.heap.size + 1) (cells (doesM (zr c) k rd rs1 rs2 imm))
        exact bodyPost_ret (results_row_tmp (p := 4) (u := 5) (by kernel_rfl) _ _ (w.heap.size + 1) _ _ _ _ rfl (R6.setRow _) Tryz.underlying25 rfl (infoCs _)) rfl
          ⟨rfl, hm.below lo, grown_of_below lo⟩
      | false =>
        have HO : Hid (stepM c l = ⟨npM (zr c) l k rd rs1 rs2 imm, npE (zr c) k rs1 imm, npL (zr c) l k rs1 rs2 imm⟩) := by
          show stepM c l = _
          rw [HS.out]; unfold insM; rw [if_neg (by simp [hp])]
        clear hpr HS
        have A5 := A4.alloc (.cells (cells nought) 25)
        have N5 := Box.new (t := 25) w3 nought
        have hlt := A4.res.lt
        have hlt2 := I4.lt
        have I6 := insAt_row (insAt_alloc I4 (.cells (cells nought) 25)) w3.heap.size (cells (doesM (zr c) k rd rs1 rs2 imm)) (by omega)
        have B6 := A5.box.otherRow w3.heap.size (cells (doesM (zr c) k rd rs1 rs2 imm)) (by omega)
        have R6 := A5.res.otherRow w3.heap.size (cells (doesM (zr c) k rd rs1 rs2 imm)) (by omega)
        have lo6 : Below w.heap.size w ((w3.alloc (.cells (cells nought) 25)).setRow w3.heap.size (cells (doesM (zr c) k rd rs1 rs2 imm))) := below_row A5.low (by omega) _
        have M6 := hm.low lo6 hl hl'
        obtain ⟨x0, x1, x2, x3, x4, x5⟩ := I6
        clear I4 A5 A4
        go_wp2_with (first
          | (refine wpList_load_row rfl 25 _ rfl w.heap.size rfl _ _ _ _ B6 Tryz.underlying25 rfl (infoCs _) ?_)
          | (refine wpList_store_row rfl 25 _ _ rfl w3.heap.size _ rfl rfl _ _ N5 (infoCs _) (cells_same _ _) (cells_one _) ?_))
        refine (notPlain_any (zr c) k rd rs1 rs2 imm hr hp _ M6).mono ?_
        rintro e w4 ⟨rfl, hm4, hg4⟩
        have r4 : BoxC w4 (w.heap.size + 1) nought := Box.grown R6 hg4 (by omega)
        have l4 := below_then lo6 hg4
        clear hg4 x0 x1 x2 x3 x4 x5 B6 R6 N5 M6 hp hr
        go_wp2_with (first
          | (refine wpList_store_row rfl 25 _ _ rfl (w.heap.size + 1) _ rfl rfl _ _ r4 (infoCs _) (cells_same _ _) (cells_one _) ?_))
        rw [HO.out]
        have l5 : ∀ cs, Below w.heap.size w4 (w4.setRow (w.heap.size + 1) cs) := fun cs => below_row (Below.refl _ _) (by omega) _
        exact bodyPost_ret (results_row_tmp (p := 4) (u := 5) (by kernel_rfl) _ _ (w.heap.size + 1) _ _ _ _ rfl (r4.setRow _) Tryz.underlying25 rfl (infoCs _)) rfl
          ⟨rfl, hm4.low (l5 _) hl hl', grown_then l4 (l5 _)⟩
  · have ht : ((c.pc.toNat : Int) % 4 != 0) = true := by simpa using h4
    have HS : Hid (stepM c l = ⟨zr c, 4, l⟩) := by
      show stepM c l = _
      unfold stepM; rw [if_pos h4]
    go_enter Tryz.func6, Tryz.ntmps6
    go_wp2_with (first
      | (refine wpList_load_row rfl 25 _ rfl w.heap.size rfl _ _ _ _ A0.box Tryz.underlying25 rfl (infoCs _) ?_)
      | (refine wpList_store_row rfl 25 _ _ rfl (w.heap.size + 1) _ rfl rfl _ _ A0.res (infoCs _) (cells_same _ _) (cells_one _) ?_))
    rw [HS.out]
    have lo := below_row A0.low (by omega : w.heap.size ≤ w.heap.size + 1) (cells (zr c))
    exact bodyPost_ret (results_row_tmp (p := 4) (u := 5) (by kernel_rfl) _ _ (w.heap.size + 1) _ _ _ _ rfl (A0.res.setRow _) Tryz.underlying25 rfl (infoCs _)) rfl
      ⟨rfl, hm.below lo, grown_of_below lo⟩
end Go.Proofs.YtilphdfobflbiaaGreat
namespace Go.Proofs.YtilphdfobflbiaaGreat
open Go.RowKit Go.Maps Cp Ip Mm
set_option linter.unusedSimpArgs false

/-- The cells of a call: the registers 10 to 17. -/
def askL (c : Mach) : List Value := row (fun i => c.x (10 + i)) 8
theorem askL_len (c : Mach) : (askL c).length = 8 := row_len _ _
theorem askL_one (c : Mach) : ∀ v ∈ askL c, v.oneCell' = true := by
  intro v hv
  unfold askL row at hv
  simp only [List.mem_map] at hv
  obtain ⟨i, _, rfl⟩ := hv; rfl
theorem askL_at (c : Mach) (j : Nat) (v : Value) (h : (askL c)[j]? = some v) : j < 8 ∧ v = .int .u32 ((c.x (10 + j)).toNat : Int) := by
  have hj : j < 8 := by
    have := (List.getElem?_eq_some_iff.1 h).1
    rwa [askL_len] at this
  unfold askL at h
  rw [row_at _ _ _ hj] at h
  exact ⟨hj, (Option.some.inj h).symm⟩
def zero8 : List Value := List.replicate 8 (.int .u32 0)
theorem zeroK (w : World) : (zeroValue 77).run Tryz.prog w = .ok (.agg zero8.toArray) w := by kernel_rfl
theorem infoK : (Tryz.prog.info? 77).map (·.size) = some 8 := by kernel_rfl
theorem infoKs (c : Mach) : (Tryz.prog.info? 77).map (·.size) = some (askL c).toArray.size := by rw [infoK]; simp [askL_len]
theorem infoU1 : (Tryz.prog.info? 22).map (·.size) = some 1 := by kernel_rfl
theorem splice_all (c : Mach) : splice zero8 0 (askL c) = askL c := by
  unfold splice; simp [zero8, askL_len]
/-- While a call is noted: the machine in block g, the answer's box and the note's. -/
structure AskAt (w : World) (g : Nat) (c : Mach) (W : World) : Prop where
  box : BoxC W g c
  res : W.heap[w.heap.size]? = some (.cells zero8.toArray 77 (0, 0))
  note : ∃ k : List Value, W.heap[w.heap.size + 1]? = some (.cells k.toArray 77 (0, 0))
  low : Below w.heap.size w W

set_option maxRecDepth 100000 in
set_option maxHeartbeats 4000000 in
theorem called_any {g : Nat} {c : Mach} (w : World) (h : BoxC w g c) :
    Calls Tryz.prog 32 #[.pointer (some ⟨g, 0, none⟩)] w fun e w' => e = .returned (.agg (askL c).toArray) ∧ Below w.heap.size w w' := by
  have hz := zeroK
  have n0 : ((w.alloc (.cells zero8.toArray 77)).alloc (.cells zero8.toArray 77)).heap[w.heap.size + 1]? = some (.cells zero8.toArray 77 (0, 0)) := Go.heap_alloc2_new w _ _
  have r0 : ((w.alloc (.cells zero8.toArray 77)).alloc (.cells zero8.toArray 77)).heap[w.heap.size]? = some (.cells zero8.toArray 77 (0, 0)) := Go.heap_alloc2_old w _ _
  have A0 : AskAt w g c ((w.alloc (.cells zero8.toArray 77)).alloc (.cells zero8.toArray 77)) := ⟨(h.alloc _).alloc _, r0, ⟨_, n0⟩, ((Below.refl _ _).alloc (Nat.le_refl _) _).alloc (by simp) _⟩
  go_enter Tryz.func32, Tryz.ntmps32
  go_wp2_with fail
  have n1 : (((w.alloc (.cells zero8.toArray 77)).alloc (.cells zero8.toArray 77)).drew).heap[w.heap.size + 1]? = some (.cells zero8.toArray 77 (0, 0)) := n0
  have A1 : AskAt w g c (((w.alloc (.cells zero8.toArray 77)).alloc (.cells zero8.toArray 77)).drew) := ⟨A0.box, A0.res, A0.note, A0.low.trans (drewN_low _ 1 _)⟩
  generalize ((w.alloc (.cells zero8.toArray 77)).alloc (.cells zero8.toArray 77)) = W at n1 A1 ⊢
  refine wp_region_noPanic ?_
  refine wp_region_held_drew (S := AskAt w g c) (by kernel_rfl) A1 (fun h0 => ?_)
  refine wpAnyH_takeAt (i := 0) (v := ?_) rfl (by kernel_rfl) (by kernel_rfl) (by kernel_rfl) (fun _ _ _ h => h) (Or.inl ⟨by rfl, ?_⟩) h0 ?_
  rotate_left 1
  · intro w' hS; clear hS
    go_simp <;> with_reducible rfl
  try simp only [Act.put, List.setIfInBounds_toArray, List.set_cons_zero, List.set_cons_succ]
  refine wpAnyH_takeAt (i := 1) (v := ?_) rfl (by kernel_rfl) (by kernel_rfl) (by kernel_rfl) (fun _ _ _ h => h) (Or.inl ⟨by rfl, ?_⟩) h0 ?_
  rotate_left 1
  · intro w' hS; clear hS
    go_simp <;> with_reducible rfl
  try simp only [Act.put, List.setIfInBounds_toArray, List.set_cons_zero, List.set_cons_succ]
  refine wpAnyH_takeAt (i := 2) (v := ?_) rfl (by kernel_rfl) (by kernel_rfl) (by kernel_rfl) (fun _ _ _ h => h) (Or.inl ⟨by rfl, ?_⟩) h0 ?_
  rotate_left 1
  · intro w' hS; clear hS
    go_simp <;> with_reducible rfl
  try simp only [Act.put, List.setIfInBounds_toArray, List.set_cons_zero, List.set_cons_succ]
  refine wpAnyH_takeAt (i := 3) (v := ?_) rfl (by kernel_rfl) (by kernel_rfl) (by kernel_rfl) (fun _ _ _ h => h) (Or.inl ⟨by rfl, ?_⟩) h0 ?_
  rotate_left 1
  · intro w' hS; clear hS
    go_simp <;> with_reducible rfl
  try simp only [Act.put, List.setIfInBounds_toArray, List.set_cons_zero, List.set_cons_succ]
  refine wpAnyH_takeAt (i := 4) (v := ?_) rfl (by kernel_rfl) (by kernel_rfl) (by kernel_rfl) (fun _ _ _ h => h) (Or.inl ⟨by rfl, ?_⟩) h0 ?_
  rotate_left 1
  · intro w' hS; clear hS
    go_simp <;> with_reducible rfl
  try simp only [Act.put, List.setIfInBounds_toArray, List.set_cons_zero, List.set_cons_succ]
  refine wpAnyH_takeAt (i := 5) (v := ?_) rfl (by kernel_rfl) (by kernel_rfl) (by kernel_rfl) (fun _ _ _ h => h) (Or.inl ⟨by rfl, ?_⟩) h0 ?_
  rotate_left 1
  · intro w' hS; clear hS
    go_simp <;> with_reducible rfl
  try simp only [Act.put, List.setIfInBounds_toArray, List.set_cons_zero, List.set_cons_succ]
  refine wpAnyH_ready (rs := [6]) (by kernel_rfl) (by simp) (allReady_at rfl (fun K hK => ?_))
  refine step_copy_splice rfl _ _ _ _ rfl 22 Tryz.underlying26 infoU1 _ _ 8 8 8 22 rfl rfl (w.heap.size + 1) 0 zero8 77 n1 (askL c) (by rw [askL_len]; rfl) (fun _ => ⟨rfl, _, rfl, fun j v hj => ?_⟩) (by rw [askL_len]; decide) (askL_one c) (w.heap.size + 1) W.drew (Below.refl _ _) (Nat.le_refl _) ?_
  · obtain ⟨hj8, rfl⟩ := askL_at c j v hj
    have := A1.box.reg (10 + j) (by omega)
    rw [show (⟨g, 10, none⟩ : Addr).add j = ⟨g, 10 + j, none⟩ by unfold Addr.add; split <;> simp_all]
    exact this
  intro w2 hg2 hb2
  rw [splice_all] at hg2
  have A2 : AskAt w g c w2 := ⟨by unfold BoxC Box; rw [hb2.block g (by have := h.lt; omega)]; exact A1.box, (hb2.block _ (by omega)).trans A1.res, ⟨_, hg2.out⟩, A1.low.trans (hb2.mono (by omega))⟩
  refine hK.out _ _ A2 (fun _ => ?_)
  clear hK K
  try simp only [Act.put, List.setIfInBounds_toArray, List.set_cons_zero, List.set_cons_succ]
  refine wpAnyH_done (by kernel_rfl) ?_ _
  refine NoPanic.normal ?_
  go_wp2_with (first
    | (refine wpList_load_row rfl 77 _ rfl (w.heap.size + 1) rfl _ _ _ _ hg2.out Tryz.underlying77 rfl (infoKs _) ?_)
    | (refine wpList_store_row rfl 77 _ _ rfl w.heap.size _ rfl rfl _ _ A2.res (infoKs _) (by simp [zero8, askL_len]) (by rw [Array.all_eq_true_iff_forall_mem]; intro v hv; exact askL_one c v (by simpa using hv)) ?_))
  exact bodyPost_ret (results_cell_row (p := 2) (by kernel_rfl) _ _ w.heap.size _ _ _ _ rfl (setRow_heap _ _ _ _ _ _ A2.res) Tryz.underlying77 rfl (infoKs _)) rfl
    ⟨rfl, below_row A2.low (Nat.le_refl _) _⟩
end Go.Proofs.YtilphdfobflbiaaGreat
namespace Go.Proofs.YtilphdfobflbiaaGreat
open Go.RowKit Go.Maps Cp Ip Mm
set_option linter.unusedSimpArgs false

structure Res where
  c : Mach
  l : Cs
  calls : List Mach
  e : Int
  n : Nat
def pre (L : List Mach) (k : Nat) (r : Res) : Res := ⟨r.c, r.l, L ++ r.calls, r.e, k + r.n⟩
def runM : Nat → Mach → Cs → List (BitVec 32) → Res
  | 0, c, l, _ => ⟨c, l, [], 6, 0⟩
  | f + 1, c, l, zs =>
    if (stepM c l).e = 1 then
      (match zs with
      | [] => ⟨(stepM c l).c, (stepM c l).l, [(stepM c l).c], 1, 1⟩
      | a :: r => pre [(stepM c l).c] 1 (runM f (sx (stepM c l).c 10 a) (stepM c l).l r))
    else if (stepM c l).e = 0 then pre [] 1 (runM f (stepM c l).c (stepM c l).l zs)
    else ⟨(stepM c l).c, (stepM c l).l, [], (stepM c l).e, 1⟩
theorem pre_pre (L M : List Mach) (j k : Nat) (r : Res) : pre L j (pre M k r) = pre (L ++ M) (j + k) r := by
  unfold pre; simp [Nat.add_assoc]
theorem pre_nil (r : Res) : pre [] 0 r = r := by unfold pre; simp
theorem run_call (f : Nat) (c : Mach) (l : Cs) (a : BitVec 32) (r : List (BitVec 32)) (h : (stepM c l).e = 1) : runM (f + 1) c l (a :: r) = pre [(stepM c l).c] 1 (runM f (sx (stepM c l).c 10 a) (stepM c l).l r) := by
  conv => lhs; unfold runM
  rw [if_pos h]
theorem run_stop (f : Nat) (c : Mach) (l : Cs) (h : (stepM c l).e = 1) : runM (f + 1) c l [] = ⟨(stepM c l).c, (stepM c l).l, [(stepM c l).c], 1, 1⟩ := by
  conv => lhs; unfold runM
  rw [if_pos h]
theorem run_on (f : Nat) (c : Mach) (l : Cs) (zs : List (BitVec 32)) (h : (stepM c l).e = 0) : runM (f + 1) c l zs = pre [] 1 (runM f (stepM c l).c (stepM c l).l zs) := by
  conv => lhs; unfold runM
  rw [if_neg (by omega), if_pos h]
theorem run_end (f : Nat) (c : Mach) (l : Cs) (zs : List (BitVec 32)) (h : (stepM c l).e ≠ 1) (h0 : (stepM c l).e ≠ 0) : runM (f + 1) c l zs = ⟨(stepM c l).c, (stepM c l).l, [], (stepM c l).e, 1⟩ := by
  conv => lhs; unfold runM
  rw [if_neg h, if_neg h0]

def askAll (L : List Mach) : List Value := (L.map askL).flatten
theorem askAll_snoc (L : List Mach) (c : Mach) : askAll (L ++ [c]) = askAll L ++ askL c := by simp [askAll]
theorem askAll_len : ∀ L : List Mach, (askAll L).length = L.length * 8
  | [] => rfl
  | c :: r => by
    have : askAll (c :: r) = askL c ++ askAll r := rfl
    rw [this, List.length_append, askL_len, askAll_len r, List.length_cons]; omega

/-- While a run is made. -/
structure RunAt (w : World) (c : Mach) (pb bm : Nat) (l : Cs) (v : Value) (L : List Mach) (W : World) : Prop where
  box : BoxC W w.heap.size c
  res : BoxC W (w.heap.size + 1) nought
  mem : MemAt W pb bm l
  gro : w.grownBy W (some bm)
  own : W.ownsRow (w.heap.size + 2) 77 8 v L.length (askAll L)
theorem own_kept {W W' : World} {B : Nat} {t : TypeId} {k : Nat} {v : Value} {n : Nat} {xs : List Value} {g : Nat} (h : W.ownsRow B t k v n xs) (hg : W.grownBy W' (some g)) (hn : g < B) : W'.ownsRow B t k v n xs := by
  refine h.kept hg ?_
  cases e : v.ownBlock with
  | none => exact .inl rfl
  | some j => exact .inr (by have := (h.lt j e).1; simp; omega)
theorem grown_row {W : World} (g : Nat) (cs : Array Value) : W.grownBy (W.setRow g cs) (some g) := ⟨rfl, rfl, rfl, by simp, fun k _ hk => setRow_other W g k cs (by simpa using hk)⟩
theorem RunAt.step {w W W' : World} {c d : Mach} {pb bm : Nat} {l l' : Cs} {v : Value} {L : List Mach} (h : RunAt w c pb bm l v L W) (hb : bm < w.heap.size) (hp : pb < w.heap.size) (hm : MemAt W' pb bm l') (hg : W.grownBy W' (some bm)) : RunAt w d pb bm l' v L (W'.setRow w.heap.size (cells d)) := by
  have b : BoxC W' w.heap.size c := Box.grown h.box hg (by omega)
  have lo : Below w.heap.size W' (W'.setRow w.heap.size (cells d)) := below_row (Below.refl _ _) (Nat.le_refl _) _
  exact ⟨b.setRow d, (Box.grown h.res hg (by omega)).otherRow _ _ (by omega), hm.low lo hp hb, grown_then (grown_trans h.gro hg) lo, own_kept (own_kept h.own hg (by omega)) (grown_row _ _) (by omega)⟩
theorem RunAt.below {w W W' : World} {c : Mach} {pb bm : Nat} {l : Cs} {v : Value} {L : List Mach} (h : RunAt w c pb bm l v L W) (hb : Below W.heap.size W W') : RunAt w c pb bm l v L W' :=
  ⟨h.box.below hb, h.res.below hb, h.mem.below hb, grown_then h.gro (hb.mono h.gro.size), h.own.kept (row := none) ⟨hb.os, hb.tape, hb.output, hb.size, fun k hk _ => hb.block k hk⟩ (by cases v.ownBlock <;> simp)⟩
theorem RunAt.note {w W W' : World} {c d : Mach} {pb bm : Nat} {l : Cs} {v v' : Value} {L : List Mach} (h : RunAt w c pb bm l v L W) (hb : bm < w.heap.size) (hp : pb < w.heap.size) (hg : W.grownBy W' v.ownBlock) (ho : W'.ownsRow (w.heap.size + 2) 77 8 v' (L.length + 1) (askAll L ++ askL d)) : RunAt w c pb bm l v' (L ++ [d]) W' := by
  have lo : Below (w.heap.size + 2) W W' := ⟨hg.os, hg.tape, hg.output, hg.size, fun k hk => hg.block k (by have := h.res.lt; omega) (fun e => by have := (h.own.lt k e.symm).1; omega)⟩
  refine ⟨?_, ?_, h.mem.low lo (by omega) (by omega), grown_then h.gro (lo.mono (by omega)), ?_⟩
  · unfold BoxC Box; rw [lo.block _ (by omega)]; exact h.box
  · unfold BoxC Box; rw [lo.block _ (by omega)]; exact h.res
  · rw [askAll_snoc, List.length_append]; exact ho
theorem RunAt.reg {w W : World} {c : Mach} {pb bm : Nat} {l : Cs} {v : Value} {L : List Mach} (h : RunAt w c pb bm l v L W) (hb : bm < w.heap.size) (hp : pb < w.heap.size) (a : BitVec 32) : RunAt w (sx c 10 a) pb bm l v L (W.setCell ⟨w.heap.size, 10, none⟩ (.int .u32 (a.toNat : Int))) := by
  have lo : Below w.heap.size W (W.setCell ⟨w.heap.size, 10, none⟩ (.int .u32 (a.toNat : Int))) := below_cell1 (Below.refl _ _) (Nat.le_refl _) _ _
  exact ⟨h.box.setx 10 (by omega) a, h.res.other _ _ (by simp), h.mem.low lo hp hb, grown_then h.gro lo, own_kept h.own (grown_setCell W _ _ _) (by omega)⟩

/-- The answers that are left: a slice that came in. -/
def AnsAt (w : World) (v : Value) (zs : List (BitVec 32)) : Prop :=
  ∃ ad cap, v = .slice ad zs.length cap ∧ zs.length ≤ cap ∧ ∀ i (h : i < zs.length), ∃ b o, ad = some ⟨b, o, none⟩ ∧ w.cell? ⟨b, o + i, none⟩ = some (.int .u32 ((zs[i]).toNat : Int))
theorem ansAt_grown {w W : World} {pb bm : Nat} {l : Cs} {v : Value} {zs : List (BitVec 32)} (h : AnsAt w v zs) (hm : MemAt w pb bm l) (hg : w.grownBy W (some bm)) : AnsAt W v zs := by
  obtain ⟨ad, cap, e, hc, f⟩ := h
  refine ⟨ad, cap, e, hc, fun i hi => ?_⟩
  obtain ⟨b, o, e, q⟩ := f i hi
  refine ⟨b, o, e, ?_⟩
  obtain ⟨es, clock, hb, _⟩ := hm.own
  have hne : b ≠ bm := by
    rintro rfl
    unfold World.cell? at q; rw [hb] at q; cases q
  have hlt := block_lt_of_cell q
  rw [← q]
  unfold World.cell?
  rw [hg.block b hlt (by simpa using hne)]
theorem infoK2 : (Tryz.prog.info? 77).map (fun i => (i.zero, i.size, i.bytes)) = some (some (.agg zero8.toArray), 8, 32) := by kernel_rfl
theorem fillK (c : Mach) : Instr.fill (fun i => some (i * 8, 8)) ((Array.range (1 * 8)).map (fun x => ((Value.agg zero8.toArray).cells[x % (Value.agg zero8.toArray).cells.size]!))) [(0, .agg (askL c).toArray)] = some (askL c).toArray := by kernel_rfl
theorem results_row_tmp3 {P : Program} {fn : Func} {p u v x : Tmp} {ty : TypeId} (h : fn.results = #[.cell p ty, .tmp u, .tmp v, .tmp x]) (tmps : Array Value) (w : World) (g : Nat) (t : TypeId) (cs : Array Value) (fr : Nat × Nat) (d : TypeDesc)
    (hp : tmps.getD p undef = .pointer (some ⟨g, 0, none⟩)) (hg : w.heap[g]? = some (.cells cs t fr))
    (hu : P.underlying ty = some d) (hd : (match d with | .struct _ | .array _ _ => true | _ => false) = true) (hi : (P.info? ty).map (·.size) = some cs.size) :
    (results fn tmps).run P w = .ok (.tuple #[.agg cs, tmps.getD u undef, tmps.getD v undef, tmps.getD x undef]) w := by
  have hp' : tmps[p]?.getD undef = .pointer (some ⟨g, 0, none⟩) := by simpa using hp
  simp [results, h, hp', asAddr, run_loadVar_row w g t ty cs fr d hg hu hd hi]
end Go.Proofs.YtilphdfobflbiaaGreat
