/-
  The machine's small parts: a number, a register set, onward.
-/
import Derived.Test.YtilphdfobflbiaaCA
import Derived.Test.YtilphdfobflbiaaF
import Derived.Deep.RegionHeld3
namespace Go.Proofs.Ytilphdfobflbiaa
open Go.RowKit Cp

abbrev BoxC (w : World) (g : Nat) (c : Mach) : Prop := Box 25 w g c
def numb (imm : Int) : BitVec 32 := BitVec.ofInt 32 imm
theorem numb_cut (imm : Int) : imm % 4294967296 = ((numb imm).toNat : Int) := Wd.cut_ imm

theorem grown_setCell (w : World) (g k : Nat) (v : Value) : w.grownBy (w.setCell ⟨g, k, none⟩ v) (some g) :=
  ⟨rfl, rfl, rfl, by simp, fun j _ hj => heap_setCell_other w _ j v (by simpa using hj)⟩
theorem cnumber_any (op rd rs1 rs2 imm : Int) (w : World) : Calls Try.prog 50 #[.agg #[.int .i64 op, .int .i64 rd, .int .i64 rs1, .int .i64 rs2, .int .i64 imm]] w fun e w' => e = .returned (.int .u32 ((numb imm).toNat : Int)) ∧ Below w.heap.size w w' := by
  go_enter Try.func50, Try.ntmps50
  go_wp2
  go_ret
  exact ⟨by rw [← numb_cut]; rfl, (Below.refl _ _).alloc (Nat.le_refl _) _⟩

theorem cset_any {g : Nat} {c : Mach} (w : World) (h : BoxC w g c) (rd : Int) (h0 : 0 ≤ rd) (h1 : rd < 32) (v : BitVec 32) :
    Calls Try.prog 53 #[.pointer (some ⟨g, 0, none⟩), .int .i64 rd, .int .u32 (v.toNat : Int)] w fun e w' => e = .returned (.tuple #[]) ∧ BoxC w' g (put c rd v) ∧ w.grownBy w' (some g) := by
  by_cases hz : rd = 0
  · subst hz
    go_enter Try.func53, Try.ntmps53
    go_wp2
    go_end0
    exact ⟨rfl, h, ⟨rfl, rfl, rfl, Nat.le_refl _, fun _ _ _ => rfl⟩⟩
  · have hb : (rd != 0) = true := by simp [hz]
    obtain ⟨k, rfl⟩ := Int.eq_ofNat_of_zero_le h0
    have hk : k < 32 := by omega
    have hc := h.reg k hk
    have hf := h.free k
    go_enter Try.func53, Try.ntmps53
    go_wp2
    go_end0
    refine ⟨rfl, ?_, grown_setCell w g k _⟩
    have e : put c (k : Int) v = sx c k v := by unfold put; rw [if_neg hz]; rfl
    rw [e]; exact h.setx k hk v
theorem infoC : (Try.prog.info? 25).map (·.size) = some 33 := by kernel_rfl
theorem infoCs (c : Mach) : (Try.prog.info? 25).map (·.size) = some (cells c).size := by rw [cells_size]; exact infoC
theorem zeroC (w : World) : (zeroValue 25).run Try.prog w = .ok (.agg (cells nought)) w := by kernel_rfl
theorem cells_same (c d : Mach) : (cells c).size = (cells d).size := by rw [cells_size, cells_size]
/-- What a call that changes block g alone leaves of the world beyond. -/
theorem below_grown {B : Nat} {a w w' : World} {g : Nat} (h : Below B a w) (hg : w.grownBy w' (some g)) (hB : B ≤ g) (hs : B ≤ w.heap.size) : Below B a w' :=
  h.trans ⟨hg.os, hg.tape, hg.output, by have := hg.size; omega, fun k hk => hg.block k (by omega) (by simp; omega)⟩
theorem Box.grown {t : TypeId} {w w' : World} {g k : Nat} {c : Mach} (h : Box t w g c) (hg : w.grownBy w' (some k)) (hn : g ≠ k) : Box t w' g c := by
  unfold Box; rw [hg.block g h.lt (by simpa using hn)]; exact h

theorem four (p : BitVec 32) : ∃ Q : BitVec 32, ((p.toNat : Int) + 4) % 4294967296 = (Q.toNat : Int) ∧ Hid (Q = p + (BitVec.ofNat 32 4)) := ⟨p + (BitVec.ofNat 32 4), Wd.add_ p (BitVec.ofNat 32 4), rfl⟩
theorem below_row {B : Nat} {a w : World} (h : Below B a w) {g : Nat} (hg : B ≤ g) (cs : Array Value) : Below B a (w.setRow g cs) :=
  h.trans ⟨rfl, rfl, rfl, by simp, fun k hk => setRow_other w g k cs (by omega)⟩
theorem below_cell1 {B : Nat} {a w : World} (h : Below B a w) {g : Nat} (hg : B ≤ g) (i : Nat) (v : Value) : Below B a (w.setCell ⟨g, i, none⟩ v) :=
  h.trans ⟨rfl, rfl, rfl, by simp, fun k hk => heap_setCell_other w _ k v (by simp; omega)⟩
set_option maxHeartbeats 1000000 in
theorem onward_any (c : Mach) (rd : Int) (h0 : 0 ≤ rd) (h1 : rd < 32) (v : BitVec 32) (w : World) :
    Calls Try.prog 21 #[.agg (cells c), .int .i64 rd, .int .u32 (v.toNat : Int)] w fun e w' => e = .returned (.agg (cells (onw c rd v))) ∧ Below w.heap.size w w' := by
  have hz := zeroC
  have b1 : BoxC ((w.alloc (.cells (cells c) 25)).alloc (.cells (cells nought) 25)) w.heap.size c := (Box.new w c).alloc _
  have b2 : BoxC ((w.alloc (.cells (cells c) 25)).alloc (.cells (cells nought) 25)) (w.heap.size + 1) nought := by
    have := Box.new (t := 25) (w.alloc (.cells (cells c) 25)) nought
    simpa using this
  go_enter Try.func21, Try.ntmps21
  go_wp2_with fail
  refine (cset_any _ b1 rd h0 h1 v).mono ?_
  rintro e w1 ⟨rfl, c1, g1⟩
  have d1 := Box.grown b2 g1 (by omega)
  have lw : Below w.heap.size w w1 := below_grown (((Below.refl _ _).alloc (Nat.le_refl _) _).alloc (by simp) _) g1 (Nat.le_refl _) (by simp; omega)
  have hp := c1.at
  rw [put_pc] at hp
  have hf := c1.free 32
  obtain ⟨Q, hE, HQ⟩ := four c.pc
  have c2 := c1.setp Q
  have d2 := d1.other ⟨w.heap.size, 32, none⟩ (.int .u32 (Q.toNat : Int)) (by simp)
  clear b1 b2 g1
  go_wp2_with (first
    | (refine wpList_load_row rfl 25 _ rfl w.heap.size rfl _ _ _ _ c2 Try.underlying25 rfl (infoCs _) ?_)
    | (refine wpList_store_row rfl 25 _ _ rfl (w.heap.size + 1) _ rfl rfl _ _ d2 (infoCs _) (cells_same _ _) (cells_one _) ?_))
  have e9 : sp (put c rd v) Q = onw c rd v := by rw [HQ.out]; rfl
  rw [e9]
  exact bodyPost_ret (v := .agg (cells (onw c rd v))) (results_cell_row (p := 6) (by kernel_rfl) _ _ (w.heap.size + 1) _ _ _ _ rfl (d2.setRow _) Try.underlying25 rfl (infoCs _)) rfl
    ⟨rfl, below_row (below_cell1 lw (Nat.le_refl _) _ _) (by omega) _⟩

def jmp (c : Mach) (rd : Int) (to : BitVec 32) : Mach := sp (put c rd (c.pc + (BitVec.ofNat 32 4))) to
set_option maxHeartbeats 1000000 in
theorem jump_any (c : Mach) (rd : Int) (h0 : 0 ≤ rd) (h1 : rd < 32) (v : BitVec 32) (w : World) :
    Calls Try.prog 71 #[.agg (cells c), .int .i64 rd, .int .u32 (v.toNat : Int)] w fun e w' => e = .returned (.agg (cells (jmp c rd v))) ∧ Below w.heap.size w w' := by
  have hz := zeroC
  have b1 : BoxC ((w.alloc (.cells (cells c) 25)).alloc (.cells (cells nought) 25)) w.heap.size c := (Box.new w c).alloc _
  have b2 : BoxC ((w.alloc (.cells (cells c) 25)).alloc (.cells (cells nought) 25)) (w.heap.size + 1) nought := by
    have := Box.new (t := 25) (w.alloc (.cells (cells c) 25)) nought
    simpa using this
  have hp := b1.at
  obtain ⟨Q, hE, HQ⟩ := four c.pc
  go_enter Try.func71, Try.ntmps71
  go_wp2_with fail
  refine (cset_any _ b1 rd h0 h1 Q).mono ?_
  rintro e w1 ⟨rfl, c1, g1⟩
  have d1 := Box.grown b2 g1 (by omega)
  have lw : Below w.heap.size w w1 := below_grown (((Below.refl _ _).alloc (Nat.le_refl _) _).alloc (by simp) _) g1 (Nat.le_refl _) (by simp; omega)
  have hq := c1.at
  have hf := c1.free 32
  have c2 := c1.setp v
  have d2 := d1.other ⟨w.heap.size, 32, none⟩ (.int .u32 (v.toNat : Int)) (by simp)
  clear b1 b2 g1 hp hE
  go_wp2_with (first
    | (refine wpList_load_row rfl 25 _ rfl w.heap.size rfl _ _ _ _ c2 Try.underlying25 rfl (infoCs _) ?_)
    | (refine wpList_store_row rfl 25 _ _ rfl (w.heap.size + 1) _ rfl rfl _ _ d2 (infoCs _) (cells_same _ _) (cells_one _) ?_))
  have e9 : sp (put c rd Q) v = jmp c rd v := by rw [HQ.out]; rfl
  rw [e9]
  exact bodyPost_ret (v := .agg (cells (jmp c rd v))) (results_cell_row (p := 6) (by kernel_rfl) _ _ (w.heap.size + 1) _ _ _ _ rfl (d2.setRow _) Try.underlying25 rfl (infoCs _)) rfl
    ⟨rfl, below_row (below_cell1 lw (Nat.le_refl _) _ _) (by omega) _⟩

def takes (op : Int) (a b : BitVec 32) : Bool :=
  if op = 4 then a == b else if op = 5 then a != b else if op = 6 then a.slt b else if op = 7 then !(a.slt b) else if op = 8 then a.ult b else !(a.ult b)
theorem beq_nat (a b : BitVec 32) : ((a.toNat : Int) == (b.toNat : Int)) = (a == b) := by
  rw [Bool.eq_iff_iff]; simp only [beq_iff_eq]
  exact ⟨fun h => BitVec.eq_of_toNat_eq (by omega), fun h => by rw [h]⟩
theorem bne_nat (a b : BitVec 32) : ((a.toNat : Int) != (b.toNat : Int)) = (a != b) := by
  unfold bne; rw [beq_nat]
theorem ge_slt (a b : BitVec 32) : decide (b.toInt ≤ a.toInt) = !(a.slt b) := by
  rw [Bool.eq_iff_iff]; simp [BitVec.slt]
theorem ult_nat (a b : BitVec 32) : decide (a.toNat < b.toNat) = a.ult b := rfl
theorem ge_ult (a b : BitVec 32) : decide (b.toNat ≤ a.toNat) = !(a.ult b) := by
  rw [Bool.eq_iff_iff]; simp [BitVec.ult]
theorem taken_any (op : Int) (h : 4 ≤ op ∧ op ≤ 9) (a b : BitVec 32) (w : World) :
    Calls Try.prog 96 #[.int .i64 op, .int .u32 (a.toNat : Int), .int .u32 (b.toNat : Int)] w fun e w' => e = .returned (.bool (takes op a b)) ∧ w' = w := by
  have h6 : op = 4 ∨ op = 5 ∨ op = 6 ∨ op = 7 ∨ op = 8 ∨ op = 9 := by omega
  have ha := Wd.toInt_ a
  have hb := Wd.toInt_ b
  clear h
  rcases h6 with rfl | rfl | rfl | rfl | rfl | rfl
  all_goals
    go_enter Try.func96, Try.ntmps96
    go_wp2
    go_ret
    refine ⟨ret_bool ?_, rfl⟩
    first | exact beq_nat a b | exact bne_nat a b | rfl | exact ge_slt a b | exact ult_nat a b | exact ge_ult a b
end Go.Proofs.Ytilphdfobflbiaa
