/-
  A machine, plainly: 32 registers and the address of the next instruction; its cells in memory. No program in sight.
  The machine's small parts: a number, a register set, onward.
  What an instruction's reckoning comes to on a machine; Does.
  Does: what it answers, of any machine and any instruction.
  Laws for walking by hand a region that draws its order, the operation written out. No program in sight.
-/
import Derived.WalkKit
import Derived.Deep.WholeRow
import Derived.Deep.QuietTactic
import Derived.BigQuiet
import Derived.Deep.RegionHeld3
import Derived.Laws.ResultCell
import Derived.Test.YtilphdfobflbiaaGreatZa
import Derived.Test.YtilphdfobflbiaaGreatZd
namespace Go.Proofs.YtilphdfobflbiaaGreat
open Go.RowKit

namespace Cp
structure Mach where
  x : Nat → BitVec 32
  pc : BitVec 32
def row (f : Nat → BitVec 32) (n : Nat) : List Value := (List.range n).map fun i => Value.int .u32 ((f i).toNat : Int)
def cells (c : Mach) : Array Value := (row c.x 32 ++ [Value.int .u32 (c.pc.toNat : Int)]).toArray
def sx (c : Mach) (i : Nat) (v : BitVec 32) : Mach := ⟨fun j => if j = i then v else c.x j, c.pc⟩
def sp (c : Mach) (v : BitVec 32) : Mach := ⟨c.x, v⟩
def zr (c : Mach) : Mach := sx c 0 (BitVec.ofNat 32 0)
def put (c : Mach) (rd : Int) (v : BitVec 32) : Mach := if rd = 0 then c else sx c rd.toNat v
def onw (c : Mach) (rd : Int) (v : BitVec 32) : Mach := sp (put c rd v) (c.pc + (BitVec.ofNat 32 4))
def nought : Mach := ⟨fun _ => (BitVec.ofNat 32 0), (BitVec.ofNat 32 0)⟩

theorem row_len (f : Nat → BitVec 32) (n : Nat) : (row f n).length = n := by simp [row]
theorem row_at (f : Nat → BitVec 32) (n i : Nat) (h : i < n) : (row f n)[i]? = some (.int .u32 ((f i).toNat : Int)) := by simp [row, h]
theorem cells_size (c : Mach) : (cells c).size = 33 := by simp [cells, row_len]
theorem cells_x (c : Mach) (i : Nat) (h : i < 32) : (cells c)[i]? = some (.int .u32 ((c.x i).toNat : Int)) := by
  unfold cells
  rw [List.getElem?_toArray, List.getElem?_append_left (by rw [row_len]; exact h), row_at _ _ _ h]
theorem cells_pc (c : Mach) : (cells c)[32]? = some (.int .u32 (c.pc.toNat : Int)) := by
  unfold cells
  rw [List.getElem?_toArray, List.getElem?_append_right (by rw [row_len]; omega), row_len]; rfl
theorem cells_out (c : Mach) (i : Nat) (h : 33 ≤ i) : (cells c)[i]? = none := by
  rw [Array.getElem?_eq_none]; rw [cells_size]; exact h
theorem cells_sx (c : Mach) (i : Nat) (h : i < 32) (v : BitVec 32) : (cells c).setIfInBounds i (.int .u32 (v.toNat : Int)) = cells (sx c i v) := by
  apply Array.ext_getElem?
  intro j
  rw [Array.getElem?_setIfInBounds]
  by_cases hj : i = j
  · subst hj
    rw [if_pos rfl, cells_x _ _ h]
    simp [cells_size, sx]; omega
  · rw [if_neg hj]
    rcases Nat.lt_trichotomy j 32 with h1 | h1 | h1
    · rw [cells_x _ _ h1, cells_x _ _ h1]; simp [sx]; rw [if_neg (fun e => hj e.symm)]
    · subst h1; rw [cells_pc, cells_pc]; rfl
    · rw [cells_out _ _ (by omega), cells_out _ _ (by omega)]
theorem cells_sp (c : Mach) (v : BitVec 32) : (cells c).setIfInBounds 32 (.int .u32 (v.toNat : Int)) = cells (sp c v) := by
  apply Array.ext_getElem?
  intro j
  rw [Array.getElem?_setIfInBounds]
  by_cases hj : 32 = j
  · subst hj
    rw [if_pos rfl, cells_pc]
    simp [cells_size, sp]
  · rw [if_neg hj]
    rcases Nat.lt_trichotomy j 32 with h1 | h1 | h1
    · rw [cells_x _ _ h1, cells_x _ _ h1]; rfl
    · omega
    · rw [cells_out _ _ (by omega), cells_out _ _ (by omega)]
theorem cells_one (c : Mach) : (cells c).all (·.oneCell') = true := by
  rw [Array.all_eq_true_iff_forall_mem]
  intro v hv
  unfold cells at hv
  simp only [List.mem_toArray, List.mem_append, List.mem_singleton] at hv
  rcases hv with hv | rfl
  · simp only [row, List.mem_map] at hv
    obtain ⟨i, _, rfl⟩ := hv; rfl
  · rfl
theorem cells_nought : cells nought = Array.replicate 33 (.int .u32 0) := by rfl
theorem sx_self (c : Mach) (i : Nat) (v : BitVec 32) : (sx c i v).x i = v := by simp [sx]
theorem sx_other (c : Mach) (i j : Nat) (h : j ≠ i) (v : BitVec 32) : (sx c i v).x j = c.x j := by simp [sx, h]
theorem zr_zr (c : Mach) : zr (zr c) = zr c := by
  unfold zr sx; congr 1; funext j; by_cases h : j = 0 <;> simp [h]
theorem put_pc (c : Mach) (rd : Int) (v : BitVec 32) : (put c rd v).pc = c.pc := by unfold put; split <;> rfl

/-- A machine in block g of the world. -/
def Box (t : TypeId) (w : World) (g : Nat) (c : Mach) : Prop := w.heap[g]? = some (.cells (cells c) t (0, 0))
variable {t : TypeId}
theorem Box.lt {w : World} {g : Nat} {c : Mach} (h : Box t w g c) : g < w.heap.size := (Array.getElem?_eq_some_iff.1 h).1
theorem Box.reg {w : World} {g : Nat} {c : Mach} (h : Box t w g c) (i : Nat) (hi : i < 32) : w.cell? ⟨g, i, none⟩ = some (.int .u32 ((c.x i).toNat : Int)) := by
  rw [cell_of_row w g i _ t (0, 0) h, cells_x _ _ hi]
theorem Box.at {w : World} {g : Nat} {c : Mach} (h : Box t w g c) : w.cell? ⟨g, 32, none⟩ = some (.int .u32 (c.pc.toNat : Int)) := by
  rw [cell_of_row w g 32 _ t (0, 0) h, cells_pc]
theorem Box.free {w : World} {g : Nat} {c : Mach} (h : Box t w g c) (i : Nat) : w.frozen? ⟨g, i, none⟩ = false := frozen_of_row w g i _ t h
theorem Box.setx {w : World} {g : Nat} {c : Mach} (h : Box t w g c) (i : Nat) (hi : i < 32) (v : BitVec 32) : Box t (w.setCell ⟨g, i, none⟩ (.int .u32 (v.toNat : Int))) g (sx c i v) := by
  unfold Box
  rw [heap_setCell_same w g i _ t _ h, cells_sx _ _ hi]
theorem Box.setp {w : World} {g : Nat} {c : Mach} (h : Box t w g c) (v : BitVec 32) : Box t (w.setCell ⟨g, 32, none⟩ (.int .u32 (v.toNat : Int))) g (sp c v) := by
  unfold Box
  rw [heap_setCell_same w g 32 _ t _ h, cells_sp]
theorem Box.setRow {w : World} {g : Nat} {c : Mach} (h : Box t w g c) (d : Mach) : Box t (w.setRow g (cells d)) g d := setRow_heap w g _ _ t _ h
theorem Box.new (w : World) (c : Mach) : Box t (w.alloc (.cells (cells c) t)) w.heap.size c := heap_alloc_new w _
theorem Box.alloc {w : World} {g : Nat} {c : Mach} (h : Box t w g c) (o : Obj) : Box t (w.alloc o) g c := by
  unfold Box; rw [Go.heap_alloc_old w o (h.lt)]; exact h
theorem Box.other {w : World} {g : Nat} {c : Mach} (h : Box t w g c) (a : Addr) (v : Value) (hn : g ≠ a.block) : Box t (w.setCell a v) g c := by
  unfold Box; rw [heap_setCell_other w a g v hn]; exact h
theorem Box.otherRow {w : World} {g : Nat} {c : Mach} (h : Box t w g c) (k : Nat) (cs : Array Value) (hn : g ≠ k) : Box t (w.setRow k cs) g c := by
  unfold Box; rw [setRow_other w k g cs hn]; exact h
theorem Box.below {w w' : World} {g : Nat} {c : Mach} (h : Box t w g c) (hb : Below w.heap.size w w') : Box t w' g c := by
  unfold Box; rw [hb.block g h.lt]; exact h
theorem Box.drewN {w : World} {g : Nat} {c : Mach} (h : Box t w g c) (n : Nat) : Box t (w.drewN n) g c := h
end Cp
end Go.Proofs.YtilphdfobflbiaaGreat
namespace Go.Proofs.YtilphdfobflbiaaGreat
open Go.RowKit Cp

abbrev BoxC (w : World) (g : Nat) (c : Mach) : Prop := Box 25 w g c
def numb (imm : Int) : BitVec 32 := BitVec.ofInt 32 imm
theorem numb_cut (imm : Int) : imm % 4294967296 = ((numb imm).toNat : Int) := Wd.cut_ imm

theorem grown_setCell (w : World) (g k : Nat) (v : Value) : w.grownBy (w.setCell ⟨g, k, none⟩ v) (some g) :=
  ⟨rfl, rfl, rfl, by simp, fun j _ hj => heap_setCell_other w _ j v (by simpa using hj)⟩
theorem cnumber_any (op rd rs1 rs2 imm : Int) (w : World) : Calls Tryz.prog 45 #[.agg #[.int .i64 op, .int .i64 rd, .int .i64 rs1, .int .i64 rs2, .int .i64 imm]] w fun e w' => e = .returned (.int .u32 ((numb imm).toNat : Int)) ∧ Below w.heap.size w w' := by
  go_enter Tryz.func45, Tryz.ntmps45
  go_wp2
  go_ret
  exact ⟨by rw [← numb_cut]; rfl, (Below.refl _ _).alloc (Nat.le_refl _) _⟩

theorem cset_any {g : Nat} {c : Mach} (w : World) (h : BoxC w g c) (rd : Int) (h0 : 0 ≤ rd) (h1 : rd < 32) (v : BitVec 32) :
    Calls Tryz.prog 74 #[.pointer (some ⟨g, 0, none⟩), .int .i64 rd, .int .u32 (v.toNat : Int)] w fun e w' => e = .returned (.tuple #[]) ∧ BoxC w' g (put c rd v) ∧ w.grownBy w' (some g) := by
  by_cases hz : rd = 0
  · subst hz
    go_enter Tryz.func74, Tryz.ntmps74
    go_wp2
    go_end0
    exact ⟨rfl, h, ⟨rfl, rfl, rfl, Nat.le_refl _, fun _ _ _ => rfl⟩⟩
  · have hb : (rd != 0) = true := by simp [hz]
    obtain ⟨k, rfl⟩ := Int.eq_ofNat_of_zero_le h0
    have hk : k < 32 := by omega
    have hc := h.reg k hk
    have hf := h.free k
    go_enter Tryz.func74, Tryz.ntmps74
    go_wp2
    go_end0
    refine ⟨rfl, ?_, grown_setCell w g k _⟩
    have e : put c (k : Int) v = sx c k v := by unfold put; rw [if_neg hz]; rfl
    rw [e]; exact h.setx k hk v
theorem infoC : (Tryz.prog.info? 25).map (·.size) = some 33 := by kernel_rfl
theorem infoCs (c : Mach) : (Tryz.prog.info? 25).map (·.size) = some (cells c).size := by rw [cells_size]; exact infoC
theorem zeroC (w : World) : (zeroValue 25).run Tryz.prog w = .ok (.agg (cells nought)) w := by kernel_rfl
theorem cells_same (c d : Mach) : (cells c).size = (cells d).size := by rw [cells_size, cells_size]
/-- What a call that changes block g alone leaves of the world beyond. -/
theorem below_grown {B : Nat} {a w w' : World} {g : Nat} (h : Below B a w) (hg : w.grownBy w' (some g)) (hB : B ≤ g) (hs : B ≤ w.heap.size) : Below B a w' :=
  h.trans ⟨hg.os, hg.tape, hg.output, by have := hg.size; omega, fun k hk => hg.block k (by omega) (by simp; omega)⟩
theorem Box.grown {t : TypeId} {w w' : World} {g k : Nat} {c : Mach} (h : Box t w g c) (hg : w.grownBy w' (some k)) (hn : g ≠ k) : Box t w' g c := by
  unfold Box; rw [hg.block g h.lt (by simpa using hn)]; exact h

theorem four (p : BitVec 32) : ∃ Q : BitVec 32, ((p.toNat : Int) + 4) % 4294967296 = (Q.toNat : Int) ∧ Hid (Q = p + (BitVec.ofNat 32 4)) := ⟨p + (BitVec.ofNat 32 4), Wd.add_ p (BitVec.ofNat 32 4), rfl⟩
theorem below_row {B : Nat} {a w : World} (h : Below B a w) {g : Nat} (hg : B ≤ g) (cs : Array Value) : Below B a (w.setRow g cs) :=
  h.trans ⟨rfl, rfl, rfl, by simp, fun k hk => setRow_other w g k cs (by omega)⟩
theorem below_cell1 {B : Nat} {a w : World} (h : Below B a w) {g : Nat} (hg : B ≤ g) (i : Nat) (v : Value) : Below B a (w.setCell ⟨g, i, none⟩ v) :=
  h.trans ⟨rfl, rfl, rfl, by simp, fun k hk => heap_setCell_other w _ k v (by simp; omega)⟩
set_option maxHeartbeats 1000000 in
theorem onward_any (c : Mach) (rd : Int) (h0 : 0 ≤ rd) (h1 : rd < 32) (v : BitVec 32) (w : World) :
    Calls Tryz.prog 43 #[.agg (cells c), .int .i64 rd, .int .u32 (v.toNat : Int)] w fun e w' => e = .returned (.agg (cells (onw c rd v))) ∧ Below w.heap.size w w' := by
  have hz := zeroC
  have b1 : BoxC ((w.alloc (.cells (cells c) 25)).alloc (.cells (cells nought) 25)) w.heap.size c := (Box.new w c).alloc _
  have b2 : BoxC ((w.alloc (.cells (cells c) 25)).alloc (.cells (cells nought) 25)) (w.heap.size + 1) nought := by
    have := Box.new (t := 25) (w.alloc (.cells (cells c) 25)) nought
    simpa using this
  go_enter Tryz.func43, Tryz.ntmps43
  go_wp2_with fail
  refine (cset_any _ b1 rd h0 h1 v).mono ?_
  rintro e w1 ⟨rfl, c1, g1⟩
  have d1 := Box.grown b2 g1 (by omega)
  have lw : Below w.heap.size w w1 := below_grown (((Below.refl _ _).alloc (Nat.le_refl _) _).alloc (by simp) _) g1 (Nat.le_refl _) (by simp; omega)
  have hp := c1.at
  rw [put_pc] at hp
  have hf := c1.free 32
  obtain ⟨Q, hE, HQ⟩ := four c.pc
  have c2 := c1.setp Q
  have d2 := d1.other ⟨w.heap.size, 32, none⟩ (.int .u32 (Q.toNat : Int)) (by simp)
  clear b1 b2 g1
  go_wp2_with (first
    | (refine wpList_load_row rfl 25 _ rfl w.heap.size rfl _ _ _ _ c2 Tryz.underlying25 rfl (infoCs _) ?_)
    | (refine wpList_store_row rfl 25 _ _ rfl (w.heap.size + 1) _ rfl rfl _ _ d2 (infoCs _) (cells_same _ _) (cells_one _) ?_))
  have e9 : sp (put c rd v) Q = onw c rd v := by rw [HQ.out]; rfl
  rw [e9]
  exact bodyPost_ret (v := .agg (cells (onw c rd v))) (results_cell_row (p := 6) (by kernel_rfl) _ _ (w.heap.size + 1) _ _ _ _ rfl (d2.setRow _) Tryz.underlying25 rfl (infoCs _)) rfl
    ⟨rfl, below_row (below_cell1 lw (Nat.le_refl _) _ _) (by omega) _⟩

def jmp (c : Mach) (rd : Int) (to : BitVec 32) : Mach := sp (put c rd (c.pc + (BitVec.ofNat 32 4))) to
set_option maxHeartbeats 1000000 in
theorem jump_any (c : Mach) (rd : Int) (h0 : 0 ≤ rd) (h1 : rd < 32) (v : BitVec 32) (w : World) :
    Calls Tryz.prog 44 #[.agg (cells c), .int .i64 rd, .int .u32 (v.toNat : Int)] w fun e w' => e = .returned (.agg (cells (jmp c rd v))) ∧ Below w.heap.size w w' := by
  have hz := zeroC
  have b1 : BoxC ((w.alloc (.cells (cells c) 25)).alloc (.cells (cells nought) 25)) w.heap.size c := (Box.new w c).alloc _
  have b2 : BoxC ((w.alloc (.cells (cells c) 25)).alloc (.cells (cells nought) 25)) (w.heap.size + 1) nought := by
    have := Box.new (t := 25) (w.alloc (.cells (cells c) 25)) nought
    simpa using this
  have hp := b1.at
  obtain ⟨Q, hE, HQ⟩ := four c.pc
  go_enter Tryz.func44, Tryz.ntmps44
  go_wp2_with fail
  refine (cset_any _ b1 rd h0 h1 Q).mono ?_
  rintro e w1 ⟨rfl, c1, g1⟩
  have d1 := Box.grown b2 g1 (by omega)
  have lw : Below w.heap.size w w1 := below_grown (((Below.refl _ _).alloc (Nat.le_refl _) _).alloc (by simp) _) g1 (Nat.le_refl _) (by simp; omega)
  have hq := c1.at
  have hf := c1.free 32
  have c2 := c1.setp v
  have d2 := d1.other ⟨w.heap.size, 32, none⟩ (.int .u32 (v.toNat : Int)) (by simp)
  clear b1 b2 g1 hp hE
  go_wp2_with (first
    | (refine wpList_load_row rfl 25 _ rfl w.heap.size rfl _ _ _ _ c2 Tryz.underlying25 rfl (infoCs _) ?_)
    | (refine wpList_store_row rfl 25 _ _ rfl (w.heap.size + 1) _ rfl rfl _ _ d2 (infoCs _) (cells_same _ _) (cells_one _) ?_))
  have e9 : sp (put c rd Q) v = jmp c rd v := by rw [HQ.out]; rfl
  rw [e9]
  exact bodyPost_ret (v := .agg (cells (jmp c rd v))) (results_cell_row (p := 6) (by kernel_rfl) _ _ (w.heap.size + 1) _ _ _ _ rfl (d2.setRow _) Tryz.underlying25 rfl (infoCs _)) rfl
    ⟨rfl, below_row (below_cell1 lw (Nat.le_refl _) _ _) (by omega) _⟩

def takes (op : Int) (a b : BitVec 32) : Bool :=
  if op = 4 then a == b else if op = 5 then a != b else if op = 6 then a.slt b else if op = 7 then !(a.slt b) else if op = 8 then a.ult b else !(a.ult b)
theorem beq_nat (a b : BitVec 32) : ((a.toNat : Int) == (b.toNat : Int)) = (a == b) := by
  rw [Bool.eq_iff_iff]; simp only [beq_iff_eq]
  exact ⟨fun h => BitVec.eq_of_toNat_eq (by omega), fun h => by rw [h]⟩
theorem bne_nat (a b : BitVec 32) : ((a.toNat : Int) != (b.toNat : Int)) = (a != b) := by
  unfold bne; rw [beq_nat]
theorem ge_slt (a b : BitVec 32) : decide (b.toInt ≤ a.toInt) = !(a.slt b) := by
  rw [Bool.eq_iff_iff]; simp [BitVec.slt]
theorem ult_nat (a b : BitVec 32) : decide (a.toNat < b.toNat) = a.ult b := rfl
theorem ge_ult (a b : BitVec 32) : decide (b.toNat ≤ a.toNat) = !(a.ult b) := by
  rw [Bool.eq_iff_iff]; simp [BitVec.ult]
theorem taken_any (op : Int) (h : 4 ≤ op ∧ op ≤ 9) (a b : BitVec 32) (w : World) :
    Calls Tryz.prog 75 #[.int .i64 op, .int .u32 (a.toNat : Int), .int .u32 (b.toNat : Int)] w fun e w' => e = .returned (.bool (takes op a b)) ∧ w' = w := by
  have h6 : op = 4 ∨ op = 5 ∨ op = 6 ∨ op = 7 ∨ op = 8 ∨ op = 9 := by omega
  have ha := Wd.toInt_ a
  have hb := Wd.toInt_ b
  clear h
  rcases h6 with rfl | rfl | rfl | rfl | rfl | rfl
  all_goals
    go_enter Tryz.func75, Tryz.ntmps75
    go_wp2
    go_ret
    refine ⟨ret_bool ?_, rfl⟩
    first | exact beq_nat a b | exact bne_nat a b | rfl | exact ge_slt a b | exact ult_nat a b | exact ge_ult a b
end Go.Proofs.YtilphdfobflbiaaGreat
namespace Go.Proofs.YtilphdfobflbiaaGreat
open Go.RowKit Cp Ip

/-- What a plain instruction puts into its register, and whether it is plain. -/
def reckV (c : Mach) (op rs1 rs2 imm : Int) : BitVec 32 :=
  if op = 0 then numb imm <<< 12 else if op = 1 then numb imm <<< 12 + c.pc
  else if plainB op = true then Wd.run (plainV op) (c.x rs1.toNat) (numb imm)
  else Wd.run op (c.x rs1.toNat) (c.x rs2.toNat)
def isPlain (op : Int) : Bool := decide (op = 0 ∨ op = 1 ∨ 18 ≤ op ∧ op ≤ 44)
def reckW (c : Mach) (op rs1 rs2 imm : Int) : BitVec 32 := if isPlain op = true then reckV c op rs1 rs2 imm else (BitVec.ofNat 32 0)
theorem frm_off (op : Int) (h : ¬ (0 ≤ op ∧ op < 47)) : frm op = 0 := by
  unfold frm
  by_cases h0 : 0 ≤ op
  · rw [if_pos h0]; unfold kf; rw [List.getD_eq_getElem?_getD, List.getElem?_eq_none]; rfl; simp; omega
  · rw [if_neg h0]
theorem frm_U (op : Int) : frm op = 85 ↔ op = 0 ∨ op = 1 := by
  by_cases h : 0 ≤ op ∧ op < 47
  · obtain ⟨k, rfl⟩ := Int.eq_ofNat_of_zero_le h.1
    have hk : k < 47 := by omega
    clear h
    rw [frm_nat]
    revert k
    refine cases47 ?_ ?_ ?_ ?_ ?_ ?_ ?_ ?_ ?_ ?_ ?_ ?_ ?_ ?_ ?_ ?_ ?_ ?_ ?_ ?_ ?_ ?_ ?_ ?_ ?_ ?_ ?_ ?_ ?_ ?_ ?_ ?_ ?_ ?_ ?_ ?_ ?_ ?_ ?_ ?_ ?_ ?_ ?_ ?_ ?_ ?_ ?_
    all_goals decide
  · have : frm op = 0 := frm_off op h
    rw [this]; omega
theorem frm_R (op : Int) : frm op = 82 ↔ 27 ≤ op ∧ op ≤ 44 := by
  by_cases h : 0 ≤ op ∧ op < 47
  · obtain ⟨k, rfl⟩ := Int.eq_ofNat_of_zero_le h.1
    have hk : k < 47 := by omega
    clear h
    rw [frm_nat]
    revert k
    refine cases47 ?_ ?_ ?_ ?_ ?_ ?_ ?_ ?_ ?_ ?_ ?_ ?_ ?_ ?_ ?_ ?_ ?_ ?_ ?_ ?_ ?_ ?_ ?_ ?_ ?_ ?_ ?_ ?_ ?_ ?_ ?_ ?_ ?_ ?_ ?_ ?_ ?_ ?_ ?_ ?_ ?_ ?_ ?_ ?_ ?_ ?_ ?_
    all_goals decide
  · have : frm op = 0 := frm_off op h
    rw [this]; omega
structure Fine (op rd rs1 rs2 imm : Int) : Prop where
  right : right op rd rs1 rs2 imm = true
  rd0 : 0 ≤ rd
  rd1 : rd < 32
  a0 : 0 ≤ rs1
  a1 : rs1 < 32
  b0 : 0 ≤ rs2
  b1 : rs2 < 32
theorem fit_in {r : Int} {b : Bool} (h : fit r b = true) : 0 ≤ r ∧ r < 32 := by
  unfold fit at h; split at h <;> simp at h <;> omega
theorem fine_of {op rd rs1 rs2 imm : Int} (h : right op rd rs1 rs2 imm = true) : Fine op rd rs1 rs2 imm := by
  have h' := h
  unfold Ip.right at h'
  simp only [Bool.and_eq_true] at h'
  obtain ⟨⟨⟨⟨_, h1⟩, h2⟩, h3⟩, _⟩ := h'
  exact ⟨h, (fit_in h1).1, (fit_in h1).2, (fit_in h2).1, (fit_in h2).2, (fit_in h3).1, (fit_in h3).2⟩

theorem below_box {w w' : World} {g : Nat} {c : Mach} {t : TypeId} (h : Box t w g c) (hb : Below w.heap.size w w') : Box t w' g c := h.below hb
theorem ret_pair {a b : Int} {p q : Bool} (h : a = b) (k : p = q) : Ending.returned (.tuple #[.int .u32 a, .bool p]) = .returned (.tuple #[.int .u32 b, .bool q]) := by rw [h, k]
theorem drewN_low (w : World) (n B : Nat) : Below B w (w.drewN n) := ⟨rfl, rfl, rfl, Nat.le_refl _, fun _ _ => rfl⟩
/-- An instruction in block g. -/
structure InsAt (w : World) (g : Nat) (op rd rs1 rs2 imm : Int) : Prop where
  c0 : w.cell? ⟨g, 0, none⟩ = some (.int .i64 op)
  c1 : w.cell? ⟨g, 1, none⟩ = some (.int .i64 rd)
  c2 : w.cell? ⟨g, 2, none⟩ = some (.int .i64 rs1)
  c3 : w.cell? ⟨g, 3, none⟩ = some (.int .i64 rs2)
  c4 : w.cell? ⟨g, 4, none⟩ = some (.int .i64 imm)
  lt : g < w.heap.size
theorem InsAt.new (w : World) (op rd rs1 rs2 imm : Int) (t : TypeId) : InsAt (w.alloc (.cells #[.int .i64 op, .int .i64 rd, .int .i64 rs1, .int .i64 rs2, .int .i64 imm] t)) w.heap.size op rd rs1 rs2 imm := by
  constructor <;> first | (rw [World.cell?_alloc_at _ _ _ _ rfl]; rfl) | simp
theorem InsAt.below {w w' : World} {g : Nat} {op rd rs1 rs2 imm : Int} (h : InsAt w g op rd rs1 rs2 imm) (hb : Below w.heap.size w w') : InsAt w' g op rd rs1 rs2 imm := by
  obtain ⟨q, _⟩ := bcell hb
  exact ⟨(q _ _ h.lt).trans h.c0, (q _ _ h.lt).trans h.c1, (q _ _ h.lt).trans h.c2, (q _ _ h.lt).trans h.c3, (q _ _ h.lt).trans h.c4, Nat.lt_of_lt_of_le h.lt hb.size⟩
/-- A number of u32 behind a letter. -/
theorem word_of (x : BitVec 32) : ∃ X : BitVec 32, Hid (X = x) := ⟨x, rfl⟩

theorem isPlain_is (op : Int) : isPlain op = decide (frm op = 85 ∨ frm op = 82 ∨ plainB op = true) := by
  unfold isPlain plainB
  rw [Bool.eq_iff_iff]; simp only [decide_eq_true_eq, frm_U, frm_R]; omega

set_option maxHeartbeats 2000000 in
theorem reck_U {g : Nat} {c : Mach} (op rd rs1 rs2 imm : Int) (hf : Fine op rd rs1 rs2 imm) (hU : op = 0 ∨ op = 1) (w : World) (h : BoxC w g c) :
    Calls Tryz.prog 42 #[.pointer (some ⟨g, 0, none⟩), .agg #[.int .i64 op, .int .i64 rd, .int .i64 rs1, .int .i64 rs2, .int .i64 imm]] w fun e w' => e = .returned (.tuple #[.int .u32 ((reckW c op rs1 rs2 imm).toNat : Int), .bool (isPlain op)]) ∧ Below w.heap.size w w' := by
  have hfrm : frm op = 85 := (frm_U op).2 hU
  have hg := h.lt
  go_enter Tryz.func42, Tryz.ntmps42
  go_wp2_with fail
  refine (form_any op _).mono ?_
  rintro e w1 ⟨rfl, hb1⟩
  rw [hfrm]
  have h1 : BoxC w1 g c := (h.alloc _).below hb1
  obtain ⟨hc1, _⟩ := bcell hb1
  have lw : Below w.heap.size w w1 := ((Below.refl _ _).alloc (Nat.le_refl _) _).trans (hb1.mono (by simp))
  go_wp2_with fail
  refine (cnumber_any op rd rs1 rs2 imm _).mono ?_
  rintro e w2 ⟨rfl, hb2⟩
  obtain ⟨hc2, _⟩ := bcell hb2
  have hz : w.heap.size < w1.heap.size := by have := hb1.size; simp at this; omega
  have hp := (h1.below hb2).at
  have lw2 : Below w.heap.size w w2 := lw.trans (hb2.mono (by omega))
  obtain ⟨N, hN, HN⟩ : ∃ N : BitVec 32, ((numb imm).toNat : Int) * 4096 % 4294967296 = (N.toNat : Int) ∧ Hid (N = numb imm <<< 12) := ⟨_, Wd.shl_ (numb imm) 12, rfl⟩
  obtain ⟨M, hM, HM⟩ : ∃ M : BitVec 32, ((N.toNat : Int) + (c.pc.toNat : Int)) % 4294967296 = (M.toNat : Int) ∧ Hid (M = N + c.pc) := ⟨_, Wd.add_ N c.pc, rfl⟩
  rcases hU with rfl | rfl
  all_goals
    go_wp2_with fail
    go_ret2
    refine ⟨ret_pair ?_ rfl, lw2⟩
    first
      | exact hN.trans (by rw [HN.out]; rfl)
      | exact hM.trans (by rw [HM.out, HN.out]; rfl)
      | (rw [hN]; exact hM.trans (by rw [HM.out, HN.out]; rfl))

set_option maxHeartbeats 4000000 in
theorem reck_R {g : Nat} {c : Mach} (op rd rs1 rs2 imm : Int) (hf : Fine op rd rs1 rs2 imm) (hR : 27 ≤ op ∧ op ≤ 44) (w : World) (h : BoxC w g c) :
    Calls Tryz.prog 42 #[.pointer (some ⟨g, 0, none⟩), .agg #[.int .i64 op, .int .i64 rd, .int .i64 rs1, .int .i64 rs2, .int .i64 imm]] w fun e w' => e = .returned (.tuple #[.int .u32 ((reckW c op rs1 rs2 imm).toNat : Int), .bool (isPlain op)]) ∧ Below w.heap.size w w' := by
  have hfrm : frm op = 82 := (frm_R op).2 hR
  have hg := h.lt
  have HE : Hid (Wd.err op = 0) := by show Wd.err op = 0; unfold Wd.err Wd.known; rw [if_pos]; exact decide_eq_true hR
  have HW : Hid (reckW c op rs1 rs2 imm = Wd.run op (c.x rs1.toNat) (c.x rs2.toNat)) := by
    show reckW c op rs1 rs2 imm = _
    unfold reckW reckV isPlain plainB
    rw [if_pos (by simp; omega), if_neg (by omega), if_neg (by omega), if_neg (by simp; omega)]
  have HP : Hid (isPlain op = true) := by show isPlain op = true; unfold isPlain; simp; omega
  obtain ⟨_, _, _, ra0, ra1, rb0, rb1⟩ := hf
  obtain ⟨i, rfl⟩ := Int.eq_ofNat_of_zero_le ra0
  obtain ⟨j, rfl⟩ := Int.eq_ofNat_of_zero_le rb0
  have hi : i < 32 := by omega
  have hj : j < 32 := by omega
  rw [Int.toNat_natCast, Int.toNat_natCast] at HW
  go_enter Tryz.func42, Tryz.ntmps42
  go_wp2_with fail
  refine (form_any op _).mono ?_
  rintro e w1 ⟨rfl, hb1⟩
  rw [hfrm]
  have h1 : BoxC w1 g c := (h.alloc _).below hb1
  obtain ⟨hc1, _⟩ := bcell hb1
  have lw : Below w.heap.size w w1 := ((Below.refl _ _).alloc (Nat.le_refl _) _).trans (hb1.mono (by simp))
  have q1 := h1.reg i hi
  have q2 := h1.reg j hj
  obtain ⟨x0, x1, x2, x3, x4, x5⟩ := (InsAt.new w op rd i j imm 55).below hb1
  clear hfrm hR h hc1 hb1
  go_wp2_with fail
  go_quiet ((go_at_call 72; exact Calls.quiet_of_same (do_any _ _ _ _)))
  have hz : (Wd.err op == 0) = true := by rw [HE.out]; rfl
  go_wp2_with fail
  go_ret2
  refine ⟨?_, lw.trans (drewN_low _ _ _)⟩
  rw [HW.out, HP.out]
  exact ret_pair rfl rfl
/-- What holds while an instruction in block b is worked on, over the machine in block g. -/
def HeldI (w : World) (b g : Nat) (c : Mach) (i : Nat) (op rd rs1 rs2 imm : Int) (W : World) : Prop :=
  W.cell? ⟨b, 0, none⟩ = some (.int .i64 op) ∧ W.cell? ⟨b, 1, none⟩ = some (.int .i64 rd) ∧ W.cell? ⟨b, 2, none⟩ = some (.int .i64 rs1) ∧ W.cell? ⟨b, 3, none⟩ = some (.int .i64 rs2) ∧ W.cell? ⟨b, 4, none⟩ = some (.int .i64 imm) ∧ W.cell? ⟨g, i, none⟩ = some (.int .u32 ((c.x i).toNat : Int)) ∧ BoxC W g c ∧ Below w.heap.size w W ∧ b < W.heap.size ∧ i < 32
theorem HeldI.mk {w W : World} {b g : Nat} {c : Mach} {i : Nat} {op rd rs1 rs2 imm : Int} (h : InsAt W b op rd rs1 rs2 imm) (hb : BoxC W g c) (hl : Below w.heap.size w W) (hi : i < 32) : HeldI w b g c i op rd rs1 rs2 imm W :=
  ⟨h.c0, h.c1, h.c2, h.c3, h.c4, hb.reg i hi, hb, hl, h.lt, hi⟩
theorem HeldI.below {w W W' : World} {b g : Nat} {c : Mach} {i : Nat} {op rd rs1 rs2 imm : Int} (h : HeldI w b g c i op rd rs1 rs2 imm W) (hb : Below W.heap.size W W') : HeldI w b g c i op rd rs1 rs2 imm W' := by
  obtain ⟨h0, h1, h2, h3, h4, h5, h6, h7, h8, h9⟩ := h
  exact HeldI.mk ((InsAt.mk h0 h1 h2 h3 h4 h8).below hb) (h6.below hb) (h7.trans (hb.mono h7.size)) h9
theorem HeldI.drew {w W : World} {b g : Nat} {c : Mach} {i : Nat} {op rd rs1 rs2 imm : Int} (h : HeldI w b g c i op rd rs1 rs2 imm W) : HeldI w b g c i op rd rs1 rs2 imm W.drew := h.below (drewN_low W 1 _)

set_option maxHeartbeats 4000000 in
theorem reck_I {g : Nat} {c : Mach} (op rd rs1 rs2 imm : Int) (hf : Fine op rd rs1 rs2 imm) (hI : 18 ≤ op ∧ op ≤ 26) (w : World) (h : BoxC w g c) :
    Calls Tryz.prog 42 #[.pointer (some ⟨g, 0, none⟩), .agg #[.int .i64 op, .int .i64 rd, .int .i64 rs1, .int .i64 rs2, .int .i64 imm]] w fun e w' => e = .returned (.tuple #[.int .u32 ((reckW c op rs1 rs2 imm).toNat : Int), .bool (isPlain op)]) ∧ Below w.heap.size w w' := by
  have hU : frm op ≠ 85 := fun e => by have := (frm_U op).1 e; omega
  have hR : frm op ≠ 82 := fun e => by have := (frm_R op).1 e; omega
  have hg := h.lt
  have hB : plainB op = true := decide_eq_true hI
  have HE : Hid (Wd.err (plainV op) = 0) := by
    show Wd.err (plainV op) = 0
    have e : op = 18 ∨ op = 19 ∨ op = 20 ∨ op = 21 ∨ op = 22 ∨ op = 23 ∨ op = 24 ∨ op = 25 ∨ op = 26 := by omega
    rcases e with rfl | rfl | rfl | rfl | rfl | rfl | rfl | rfl | rfl <;> rfl
  have HW : Hid (reckW c op rs1 rs2 imm = Wd.run (plainV op) (c.x rs1.toNat) (numb imm)) := by
    show reckW c op rs1 rs2 imm = _
    unfold reckW reckV isPlain
    rw [if_pos (by simp; omega), if_neg (by omega), if_neg (by omega), if_pos hB]
  have HP : Hid (isPlain op = true) := by show isPlain op = true; unfold isPlain; simp; omega
  obtain ⟨_, _, _, ra0, ra1, rb0, rb1⟩ := hf
  obtain ⟨i, rfl⟩ := Int.eq_ofNat_of_zero_le ra0
  have hi : i < 32 := by omega
  rw [Int.toNat_natCast] at HW
  go_enter Tryz.func42, Tryz.ntmps42
  go_wp2_with fail
  refine (form_any op _).mono ?_
  rintro e w1 ⟨rfl, hb1⟩
  have h1 : BoxC w1 g c := (h.alloc _).below hb1
  have lw : Below w.heap.size w w1 := ((Below.refl _ _).alloc (Nat.le_refl _) _).trans (hb1.mono (by simp))
  have hH : Hid (HeldI w w.heap.size g c i op rd i rs2 imm w1) := HeldI.mk ((InsAt.new w op rd i rs2 imm 55).below hb1) h1 lw hi
  obtain ⟨x0, x1, x2, x3, x4, x5⟩ := (InsAt.new w op rd i rs2 imm 55).below hb1
  have f1 : ((frm op : Int) == 85) = false := by simp; omega
  have f2 : ((frm op : Int) == 82) = false := by simp; omega
  clear hU hR h hb1 h1 lw
  go_wp2_with fail
  refine (plain_any op _).mono ?_
  rintro e w2 ⟨rfl, rfl⟩
  rw [hB]
  go_wp2_with fail
  have hD := hH.out.drew
  go_region_held3 (fun W => W.cell? ⟨w.heap.size, 0, none⟩ = some (.int .i64 op) ∧ W.cell? ⟨w.heap.size, 1, none⟩ = some (.int .i64 rd) ∧ W.cell? ⟨w.heap.size, 2, none⟩ = some (.int .i64 (i : Int)) ∧ W.cell? ⟨w.heap.size, 3, none⟩ = some (.int .i64 rs2) ∧ W.cell? ⟨w.heap.size, 4, none⟩ = some (.int .i64 imm) ∧ W.cell? ⟨g, i, none⟩ = some (.int .u32 ((c.x i).toNat : Int)) ∧ BoxC W g c ∧ Below w.heap.size w W ∧ w.heap.size < W.heap.size ∧ i < 32)
    (first | assumption | exact hH.out.drew)
    (first
      | (go_at_call 45; refine (cnumber_any _ _ _ _ _ _).mono ?_; rintro e w3 ⟨rfl, hk⟩; have hS : HeldI w w.heap.size g c i op rd i rs2 imm w3 := HeldI.below (by assumption) hk)
      | (go_at_call 72; refine (do_any _ _ _ _).mono ?_; rintro e w4 ⟨rfl, rfl⟩))
  have hz : (Wd.err (plainV op) == 0) = true := by rw [HE.out]; rfl
  go_wp2_with fail
  go_ret2
  refine ⟨?_, ?_⟩
  · rw [HW.out, HP.out]
    exact ret_pair rfl rfl
  · exact hS.2.2.2.2.2.2.2.1
set_option maxHeartbeats 1000000 in
theorem reck_no {g : Nat} {c : Mach} (op rd rs1 rs2 imm : Int) (hn : isPlain op = false) (w : World) :
    Calls Tryz.prog 42 #[.pointer (some ⟨g, 0, none⟩), .agg #[.int .i64 op, .int .i64 rd, .int .i64 rs1, .int .i64 rs2, .int .i64 imm]] w fun e w' => e = .returned (.tuple #[.int .u32 ((reckW c op rs1 rs2 imm).toNat : Int), .bool (isPlain op)]) ∧ Below w.heap.size w w' := by
  have hp := hn
  rw [isPlain_is, decide_eq_false_iff_not] at hp
  have hU : frm op ≠ 85 := fun e => hp (.inl e)
  have hR : frm op ≠ 82 := fun e => hp (.inr (.inl e))
  have hB : plainB op = false := by cases e : plainB op with | false => rfl | true => exact absurd (.inr (.inr e)) hp
  have HW : Hid (reckW c op rs1 rs2 imm = (BitVec.ofNat 32 0)) := by show reckW c op rs1 rs2 imm = (BitVec.ofNat 32 0); unfold reckW; rw [if_neg (by simp [hn])]
  have HN : Hid (isPlain op = false) := hn
  clear hn hp
  go_enter Tryz.func42, Tryz.ntmps42
  go_wp2_with fail
  refine (form_any op _).mono ?_
  rintro e w1 ⟨rfl, hb1⟩
  have lw : Below w.heap.size w w1 := ((Below.refl _ _).alloc (Nat.le_refl _) _).trans (hb1.mono (by simp))
  obtain ⟨x0, x1, x2, x3, x4, x5⟩ := (InsAt.new w op rd rs1 rs2 imm 55).below hb1
  have f1 : ((frm op : Int) == 85) = false := by simp; omega
  have f2 : ((frm op : Int) == 82) = false := by simp; omega
  clear hU hR hb1
  go_wp2_with fail
  refine (plain_any op _).mono ?_
  rintro e w2 ⟨rfl, rfl⟩
  rw [hB]
  go_wp2_with fail
  go_ret2
  refine ⟨?_, lw⟩
  rw [HW.out, HN.out]
  exact ret_pair rfl rfl

theorem reck_any {g : Nat} {c : Mach} (op rd rs1 rs2 imm : Int) (hr : right op rd rs1 rs2 imm = true) (w : World) (h : BoxC w g c) :
    Calls Tryz.prog 42 #[.pointer (some ⟨g, 0, none⟩), .agg #[.int .i64 op, .int .i64 rd, .int .i64 rs1, .int .i64 rs2, .int .i64 imm]] w fun e w' => e = .returned (.tuple #[.int .u32 ((reckW c op rs1 rs2 imm).toNat : Int), .bool (isPlain op)]) ∧ Below w.heap.size w w' := by
  have hf := fine_of hr
  cases hp : isPlain op with
  | false => rw [← hp]; exact reck_no op rd rs1 rs2 imm hp w
  | true =>
    rw [← hp]
    have : op = 0 ∨ op = 1 ∨ 18 ≤ op ∧ op ≤ 44 := of_decide_eq_true hp
    by_cases h1 : op = 0 ∨ op = 1
    · exact reck_U op rd rs1 rs2 imm hf h1 w h
    · by_cases h2 : op ≤ 26
      · exact reck_I op rd rs1 rs2 imm hf (by omega) w h
      · exact reck_R op rd rs1 rs2 imm hf (by omega) w h
end Go.Proofs.YtilphdfobflbiaaGreat
namespace Go.Proofs.YtilphdfobflbiaaGreat
open Go.RowKit Cp Ip

theorem results_row_tmp {P : Program} {fn : Func} {p u : Tmp} {ty : TypeId} (h : fn.results = #[.cell p ty, .tmp u]) (tmps : Array Value) (w : World) (g : Nat) (t : TypeId) (cs : Array Value) (fr : Nat × Nat) (d : TypeDesc)
    (hp : tmps.getD p undef = .pointer (some ⟨g, 0, none⟩)) (hg : w.heap[g]? = some (.cells cs t fr))
    (hu : P.underlying ty = some d) (hd : (match d with | .struct _ | .array _ _ => true | _ => false) = true) (hi : (P.info? ty).map (·.size) = some cs.size) :
    (results fn tmps).run P w = .ok (.tuple #[.agg cs, tmps.getD u undef]) w := by
  have hp' : tmps[p]?.getD undef = .pointer (some ⟨g, 0, none⟩) := by simpa using hp
  simp [results, h, hp', asAddr, run_loadVar_row w g t ty cs fr d hg hu hd hi]

/-- While a function that takes a machine and an instruction is at work: their boxes, and that of its answer. -/
structure DoesAt (w : World) (c r : Mach) (op rd rs1 rs2 imm : Int) (W : World) : Prop where
  box : BoxC W w.heap.size c
  ins : InsAt W (w.heap.size + 1) op rd rs1 rs2 imm
  res : BoxC W (w.heap.size + 2) r
  low : Below w.heap.size w W
theorem DoesAt.below {w W W' : World} {c r : Mach} {op rd rs1 rs2 imm : Int} (h : DoesAt w c r op rd rs1 rs2 imm W) (hb : Below W.heap.size W W') : DoesAt w c r op rd rs1 rs2 imm W' :=
  ⟨h.box.below hb, h.ins.below hb, h.res.below hb, h.low.trans (hb.mono h.low.size)⟩
theorem insAt_other {w : World} {g : Nat} {op rd rs1 rs2 imm : Int} (h : InsAt w g op rd rs1 rs2 imm) (a : Addr) (v : Value) (hn : g ≠ a.block) : InsAt (w.setCell a v) g op rd rs1 rs2 imm := by
  have q : ∀ o, (w.setCell a v).cell? ⟨g, o, none⟩ = w.cell? ⟨g, o, none⟩ := fun o => by
    unfold World.cell?; rw [heap_setCell_other w a g v hn]
  exact ⟨(q _).trans h.c0, (q _).trans h.c1, (q _).trans h.c2, (q _).trans h.c3, (q _).trans h.c4, by simpa using h.lt⟩
theorem insAt_alloc {w : World} {g : Nat} {op rd rs1 rs2 imm : Int} (h : InsAt w g op rd rs1 rs2 imm) (o : Obj) : InsAt (w.alloc o) g op rd rs1 rs2 imm :=
  h.below ((Below.refl _ _).alloc (Nat.le_refl _) _)
theorem doesAt_start (w : World) (c : Mach) (op rd rs1 rs2 imm : Int) :
    DoesAt w c nought op rd rs1 rs2 imm (((w.alloc (.cells (cells c) 25)).alloc (.cells #[.int .i64 op, .int .i64 rd, .int .i64 rs1, .int .i64 rs2, .int .i64 imm] 55)).alloc (.cells (cells nought) 25)) := by
  have i := InsAt.new (w.alloc (.cells (cells c) 25)) op rd rs1 rs2 imm 55
  have r := Box.new (t := 25) ((w.alloc (.cells (cells c) 25)).alloc (.cells #[.int .i64 op, .int .i64 rd, .int .i64 rs1, .int .i64 rs2, .int .i64 imm] 55)) nought
  simp only [World.size_alloc] at i r
  exact ⟨((Box.new w c).alloc _).alloc _, insAt_alloc i _, r, (((Below.refl _ _).alloc (Nat.le_refl _) _).alloc (by simp) _).alloc (by simp; omega) _⟩
theorem cells_zr (c : Mach) : (cells c).setIfInBounds 0 (.int .u32 0) = cells (zr c) := cells_sx c 0 (by omega) (BitVec.ofNat 32 0)

def doesB (op rd rs1 rs2 imm : Int) : Bool := right op rd rs1 rs2 imm && isPlain op
def doesM (c : Mach) (op rd rs1 rs2 imm : Int) : Mach := if doesB op rd rs1 rs2 imm = true then onw (zr c) rd (reckV (zr c) op rs1 rs2 imm) else zr c

set_option maxHeartbeats 2000000 in
theorem does_any4 (c : Mach) (op rd rs1 rs2 imm : Int) (w : World) :
    Calls Tryz.prog 20 #[.agg (cells c), .agg #[.int .i64 op, .int .i64 rd, .int .i64 rs1, .int .i64 rs2, .int .i64 imm]] w fun e w' => e = .returned (.tuple #[.agg (cells (doesM c op rd rs1 rs2 imm)), .bool (doesB op rd rs1 rs2 imm)]) ∧ Below w.heap.size w w' := by
  have hz := zeroC
  have hc0 : ((cells c)[0]?) = some (.int .u32 ((c.x 0).toNat : Int)) := cells_x c 0 (by omega)
  have hcs := cells_size c
  have hcz := cells_zr c
  go_enter Tryz.func20, Tryz.ntmps20
  go_wp2_with fail
  refine (right_any op rd rs1 rs2 imm _).mono ?_
  rintro e w1 ⟨rfl, hb1⟩
  have D1 := (doesAt_start w (zr c) op rd rs1 rs2 imm).below hb1
  clear hb1 hc0 hcs hcz
  obtain ⟨x0, x1, x2, x3, x4, x5⟩ := D1.ins
  cases hr : right op rd rs1 rs2 imm with
  | false =>
    have HM : Hid (doesM c op rd rs1 rs2 imm = zr c) := by show doesM c op rd rs1 rs2 imm = zr c; unfold doesM doesB; rw [hr]; rfl
    have HB : Hid (doesB op rd rs1 rs2 imm = false) := by show doesB op rd rs1 rs2 imm = false; unfold doesB; rw [hr]; rfl
    clear hr
    go_wp2_with (first
      | (refine wpList_load_row rfl 25 _ rfl w.heap.size rfl _ _ _ _ D1.box Tryz.underlying25 rfl (infoCs _) ?_)
      | (refine wpList_store_row rfl 25 _ _ rfl (w.heap.size + 2) _ rfl rfl _ _ D1.res (infoCs _) (cells_same _ _) (cells_one _) ?_))
    rw [HM.out, HB.out]
    exact bodyPost_ret (v := .tuple #[.agg (cells (zr c)), .bool false]) (results_row_tmp (p := 4) (u := 5) (by kernel_rfl) _ _ (w.heap.size + 2) _ _ _ _ rfl (D1.res.setRow _) Tryz.underlying25 rfl (infoCs _)) rfl
      ⟨rfl, below_row D1.low (by omega) _⟩
  | true =>
    have eB : doesB op rd rs1 rs2 imm = isPlain op := by unfold doesB; rw [hr]; rfl
    go_wp2_with fail
    refine (reck_any op rd rs1 rs2 imm hr _ D1.box).mono ?_
    rintro e w2 ⟨rfl, hb2⟩
    have D2 := D1.below hb2
    clear x0 x1 x2 x3 x4 x5 hb2
    obtain ⟨x0, x1, x2, x3, x4, x5⟩ := D2.ins
    cases hp : isPlain op with
    | false =>
      have HM : Hid (doesM c op rd rs1 rs2 imm = zr c) := by show doesM c op rd rs1 rs2 imm = zr c; unfold doesM; rw [eB, hp]; rfl
      have HB : Hid (doesB op rd rs1 rs2 imm = false) := by show doesB op rd rs1 rs2 imm = false; rw [eB, hp]
      clear eB hr hp
      go_wp2_with (first
        | (refine wpList_load_row rfl 25 _ rfl w.heap.size rfl _ _ _ _ D2.box Tryz.underlying25 rfl (infoCs _) ?_)
        | (refine wpList_store_row rfl 25 _ _ rfl (w.heap.size + 2) _ rfl rfl _ _ D2.res (infoCs _) (cells_same _ _) (cells_one _) ?_))
      rw [HM.out, HB.out]
      exact bodyPost_ret (v := .tuple #[.agg (cells (zr c)), .bool false]) (results_row_tmp (p := 4) (u := 5) (by kernel_rfl) _ _ (w.heap.size + 2) _ _ _ _ rfl (D2.res.setRow _) Tryz.underlying25 rfl (infoCs _)) rfl
        ⟨rfl, below_row D2.low (by omega) _⟩
    | true =>
      have hf := fine_of hr
      have HM : Hid (doesM c op rd rs1 rs2 imm = onw (zr c) rd (reckW (zr c) op rs1 rs2 imm)) := by
        show doesM c op rd rs1 rs2 imm = _
        unfold doesM reckW; rw [eB, hp]; rfl
      have HB : Hid (doesB op rd rs1 rs2 imm = true) := by show _ = true; rw [eB, hp]
      clear eB hr hp
      go_wp2_with (first
        | (refine wpList_load_row rfl 25 _ rfl w.heap.size rfl _ _ _ _ D2.box Tryz.underlying25 rfl (infoCs _) ?_))
      refine (onward_any (zr c) rd hf.rd0 hf.rd1 _ _).mono ?_
      rintro e w3 ⟨rfl, hb3⟩
      have D3 := D2.below hb3
      clear x0 x1 x2 x3 x4 x5 hb3
      go_wp2_with (first
        | (refine wpList_store_row rfl 25 _ _ rfl (w.heap.size + 2) _ rfl rfl _ _ D3.res (infoCs _) (cells_same _ _) (cells_one _) ?_))
      rw [HM.out, HB.out]
      exact bodyPost_ret (results_row_tmp (p := 4) (u := 5) (by kernel_rfl) _ _ (w.heap.size + 2) _ _ _ _ rfl (D3.res.setRow _) Tryz.underlying25 rfl (infoCs _)) rfl
        ⟨rfl, below_row D3.low (by omega) _⟩
end Go.Proofs.YtilphdfobflbiaaGreat
namespace Go.Proofs.YtilphdfobflbiaaGreat
open Go.RowKit
set_option linter.unusedSimpArgs false

section
variable {P : Program} {md : Region.Mode} {ops : Array Oper} {Q : Exit → Act → World → Prop} {S : World → Prop}
theorem at_drop {i : Nat} {oi : Oper} {rest : List Oper} (hd : ops.toList.drop i = oi :: rest) : ops[i]? = some oi := by
  have h : (ops.toList.drop i)[0]? = some oi := by rw [hd]; rfl
  rw [List.getElem?_drop] at h
  simpa using h
theorem wpAnyH_takeAt {i : Nat} {oi : Oper} {rest : List Oper} {v : Value} {fuel : Nat} {listed : Array Bool} {a : Act} {w : World} (hd : ops.toList.drop i = oi :: rest)
    (hs : Region.noSelect ops = true) (hf : Region.free md ops listed i = true) (hr : (Region.ready md ops listed).contains i = true)
    (hQ : ∀ c a w, Q (.panic c) (a.put oi.dst v) w → Q (.panic c) a w) (hy : YieldsIf P ops S oi v a) (hS : S w)
    (h : wpAnyH P md ops Q S fuel (listed.setIfInBounds i true) (a.put oi.dst v) w) : wpAnyH P md ops Q S (fuel + 1) listed a w :=
  wpAnyH_take (at_drop hd) hs hf hr hQ hy hS h
theorem allReady_at {fuel : Nat} {listed : Array Bool} {a : Act} {w : World} {i : Nat} {o : Oper} {rest : List Oper} (hd : ops.toList.drop i = o :: rest)
    (h : ∀ K' : Act → World → Prop, Shut (∀ a w, S w → (S w → wpAnyH P md ops Q S fuel (listed.setIfInBounds i true) a w) → K' a w) → if Region.wanted o (yielded ops a.tmps) = true then Oper.wp P o a w K' Q else K' (a.put o.dst undef) w) : AllReadyH P md ops Q S fuel listed a w [i] :=
  AllReadyH.cons (at_drop hd) h AllReadyH.nil
theorem yieldsIf_row {op : Oper} {a : Act} (hw : Region.wanted op (yielded ops a.tmps) = true) (ty : TypeId) (x : Operand) (ho : op.op = .load ty x)
    (g : Nat) (hx : a.eval x = .pointer (some ⟨g, 0, none⟩)) (t : TypeId) (cs : Array Value) (fr : Nat × Nat) (d : TypeDesc) (hS : ∀ w, S w → w.heap[g]? = some (.cells cs t fr))
    (hu : P.underlying ty = some d) (hd : (match d with | .struct _ | .array _ _ => true | _ => false) = true) (hi : (P.info? ty).map (·.size) = some cs.size) : YieldsIf P ops S op (.agg cs) a :=
  .inl ⟨hw, fun w hw' => by
    unfold execOp
    simp only [ho, hx, Instr.loadAt, Instr.sureAddr, Sem.run_bind, Sem.run_pure, Result.andThen_ok, run_loadVar_row w g t ty cs fr d (hS w hw') hu hd hi]⟩
end
end Go.Proofs.YtilphdfobflbiaaGreat
