/-
  Laws for walking by hand a region that draws its order, the operation written out. No program in sight.
  A machine, plainly: 32 registers and the address of the next instruction; its cells in memory. No program in sight.
  The machine's small parts: a number, a register set, onward.
  What an instruction's reckoning comes to on a machine; Does.
  Does: what it answers, of any machine and any instruction.
-/
import Derived.WalkKit
import Derived.Deep.WholeRow
import Derived.Deep.QuietTactic
import Derived.BigQuiet
import Derived.Deep.RegionHeld3
import Derived.Laws.ResultCell
import Derived.Test.YtcffpmicencfpabGreatZa
import Derived.Test.YtcffpmicencfpabGreatZd
namespace Go.Proofs.YtcffpmicencfpabGreat
open Go.RowKit
set_option linter.unusedSimpArgs false

section
variable {P : Program} {md : Region.Mode} {ops : Array Oper} {Q : Exit → Act → World → Prop} {S : World → Prop}
theorem at_drop {i : Nat} {oi : Oper} {rest : List Oper} (hd : ops.toList.drop i = oi :: rest) : ops[i]? = some oi := by
  have h : (ops.toList.drop i)[0]? = some oi := by rw [hd]; rfl
  rw [List.getElem?_drop] at h
  simpa using h
theorem wpAnyH_takeAt {i : Nat} {oi : Oper} {rest : List Oper} {v : Value} {fuel : Nat} {listed : Array Bool} {a : Act} {w : World} (hd : ops.toList.drop i = oi :: rest)
    (hs : Region.noSelect ops = true) (hf : Region.free md ops listed i = true) (hr : (Region.ready md ops listed).contains i = true)
    (hQ : ∀ c a w, Q (.panic c) (a.put oi.dst v) w → Q (.panic c) a w) (hy : YieldsIf P ops S oi v a) (hS : S w)
    (h : wpAnyH P md ops Q S fuel (listed.setIfInBounds i true) (a.put oi.dst v) w) : wpAnyH P md ops Q S (fuel + 1) listed a w :=
  wpAnyH_take (at_drop hd) hs hf hr hQ hy hS h
theorem allReady_at {fuel : Nat} {listed : Array Bool} {a : Act} {w : World} {i : Nat} {o : Oper} {rest : List Oper} (hd : ops.toList.drop i = o :: rest)
    (h : ∀ K' : Act → World → Prop, Shut (∀ a w, S w → (S w → wpAnyH P md ops Q S fuel (listed.setIfInBounds i true) a w) → K' a w) → if Region.wanted o (yielded ops a.tmps) = true then Oper.wp P o a w K' Q else K' (a.put o.dst undef) w) : AllReadyH P md ops Q S fuel listed a w [i] :=
  AllReadyH.cons (at_drop hd) h AllReadyH.nil
theorem yieldsIf_row {op : Oper} {a : Act} (hw : Region.wanted op (yielded ops a.tmps) = true) (ty : TypeId) (x : Operand) (ho : op.op = .load ty x)
    (g : Nat) (hx : a.eval x = .pointer (some ⟨g, 0, none⟩)) (t : TypeId) (cs : Array Value) (fr : Nat × Nat) (d : TypeDesc) (hS : ∀ w, S w → w.heap[g]? = some (.cells cs t fr))
    (hu : P.underlying ty = some d) (hd : (match d with | .struct _ | .array _ _ => true | _ => false) = true) (hi : (P.info? ty).map (·.size) = some cs.size) : YieldsIf P ops S op (.agg cs) a :=
  .inl ⟨hw, fun w hw' => by
    unfold execOp
    simp only [ho, hx, Instr.loadAt, Instr.sureAddr, Sem.run_bind, Sem.run_pure, Result.andThen_ok, run_loadVar_row w g t ty cs fr d (hS w hw') hu hd hi]⟩
end
end Go.Proofs.YtcffpmicencfpabGreat
namespace Go.Proofs.YtcffpmicencfpabGreat
open Go.RowKit

namespace Cp
structure Mach where
  x : Nat → BitVec 32
  pc : BitVec 32
def row (f : Nat → BitVec 32) (n : Nat) : List Value := (List.range n).map fun i => Value.int .u32 ((f i).toNat : Int)
def cells (c : Mach) : Array Value := (row c.x 32 ++ [Value.int .u32 (c.pc.toNat : Int)]).toArray
def sx (c : Mach) (i : Nat) (v : BitVec 32) : Mach := ⟨fun j => if j = i then v else c.x j, c.pc⟩
def sp (c : Mach) (v : BitVec 32) : Mach := ⟨c.x, v⟩
def zr (c : Mach) : Mach := sx c 0 (BitVec.ofNat 32 0)
def put (c : Mach) (rd : Int) (v : BitVec 32) : Mach := if rd = 0 then c else sx c rd.toNat v
def onw (c : Mach) (rd : Int) (v : BitVec 32) : Mach := sp (put c rd v) (c.pc + (BitVec.ofNat 32 4))
def nought : Mach := ⟨fun _ => (BitVec.ofNat 32 0), (BitVec.ofNat 32 0)⟩

theorem row_len (f : Nat → BitVec 32) (n : Nat) : (row f n).length = n := by simp [row]
theorem row_at (f : Nat → BitVec 32) (n i : Nat) (h : i < n) : (row f n)[i]? = some (.int .u32 ((f i).toNat : Int)) := by simp [row, h]
theorem cells_size (c : Mach) : (cells c).size = 33 := by simp [cells, row_len]
theorem cells_x (c : Mach) (i : Nat) (h : i < 32) : (cells c)[i]? = some (.int .u32 ((c.x i).toNat : Int)) := by
  unfold cells
  rw [List.getElem?_toArray, List.getElem?_append_left (by rw [row_len]; exact h), row_at _ _ _ h]
theorem cells_pc (c : Mach) : (cells c)[32]? = some (.int .u32 (c.pc.toNat : Int)) := by
  unfold cells
  rw [List.getElem?_toArray, List.getElem?_append_right (by rw [row_len]; omega), row_len]; rfl
theorem cells_out (c : Mach) (i : Nat) (h : 33 ≤ i) : (cells c)[i]? = none := by
  rw [Array.getElem?_eq_none]; rw [cells_size]; exact h
theorem cells_sx (c : Mach) (i : Nat) (h : i < 32) (v : BitVec 32) : (cells c).setIfInBounds i (.int .u32 (v.toNat : Int)) = cells (sx c i v) := by
  apply Array.ext_getElem?
  intro j
  rw [Array.getElem?_setIfInBounds]
  by_cases hj : i = j
  · subst hj
    rw [if_pos rfl, cells_x _ _ h]
    simp [cells_size, sx]; omega
  · rw [if_neg hj]
    rcases Nat.lt_trichotomy j 32 with h1 | h1 | h1
    · rw [cells_x _ _ h1, cells_x _ _ h1]; simp [sx]; rw [if_neg (fun e => hj e.symm)]
    · subst h1; rw [cells_pc, cells_pc]; rfl
    · rw [cells_out _ _ (by omega), cells_out _ _ (by omega)]
theorem cells_sp (c : Mach) (v : BitVec 32) : (cells c).setIfInBounds 32 (.int .u32 (v.toNat : Int)) = cells (sp c v) := by
  apply Array.ext_getElem?
  intro j
  rw [Array.getElem?_setIfInBounds]
  by_cases hj : 32 = j
  · subst hj
    rw [if_pos rfl, cells_pc]
    simp [cells_size, sp]
  · rw [if_neg hj]
    rcases Nat.lt_trichotomy j 32 with h1 | h1 | h1
    · rw [cells_x _ _ h1, cells_x _ _ h1]; rfl
    · omega
    · rw [cells_out _ _ (by omega), cells_out _ _ (by omega)]
theorem cells_one (c : Mach) : (cells c).all (·.oneCell') = true := by
  rw [Array.all_eq_true_iff_forall_mem]
  intro v hv
  unfold cells at hv
  simp only [List.mem_toArray, List.mem_append, List.mem_singleton] at hv
  rcases hv with hv | rfl
  · simp only [row, List.mem_map] at hv
    obtain ⟨i, _, rfl⟩ := hv; rfl
  · rfl
theorem cells_nought : cells nought = Array.replicate 33 (.int .u32 0) := by rfl
theorem sx_self (c : Mach) (i : Nat) (v : BitVec 32) : (sx c i v).x i = v := by simp [sx]
theorem sx_other (c : Mach) (i j : Nat) (h : j ≠ i) (v : BitVec 32) : (sx c i v).x j = c.x j := by simp [sx, h]
theorem zr_zr (c : Mach) : zr (zr c) = zr c := by
  unfold zr sx; congr 1; funext j; by_cases h : j = 0 <;> simp [h]
theorem put_pc (c : Mach) (rd : Int) (v : BitVec 32) : (put c rd v).pc = c.pc := by unfold put; split <;> rfl

/-- A machine in block g of the world. -/
def Box (t : TypeId) (w : World) (g : Nat) (c : Mach) : Prop := w.heap[g]? = some (.cells (cells c) t (0, 0))
variable {t : TypeId}
theorem Box.lt {w : World} {g : Nat} {c : Mach} (h : Box t w g c) : g < w.heap.size := (Array.getElem?_eq_some_iff.1 h).1
theorem Box.reg {w : World} {g : Nat} {c : Mach} (h : Box t w g c) (i : Nat) (hi : i < 32) : w.cell? ⟨g, i, none⟩ = some (.int .u32 ((c.x i).toNat : Int)) := by
  rw [cell_of_row w g i _ t (0, 0) h, cells_x _ _ hi]
theorem Box.at {w : World} {g : Nat} {c : Mach} (h : Box t w g c) : w.cell? ⟨g, 32, none⟩ = some (.int .u32 (c.pc.toNat : Int)) := by
  rw [cell_of_row w g 32 _ t (0, 0) h, cells_pc]
theorem Box.free {w : World} {g : Nat} {c : Mach} (h : Box t w g c) (i : Nat) : w.frozen? ⟨g, i, none⟩ = false := frozen_of_row w g i _ t h
theorem Box.setx {w : World} {g : Nat} {c : Mach} (h : Box t w g c) (i : Nat) (hi : i < 32) (v : BitVec 32) : Box t (w.setCell ⟨g, i, none⟩ (.int .u32 (v.toNat : Int))) g (sx c i v) := by
  unfold Box
  rw [heap_setCell_same w g i _ t _ h, cells_sx _ _ hi]
theorem Box.setp {w : World} {g : Nat} {c : Mach} (h : Box t w g c) (v : BitVec 32) : Box t (w.setCell ⟨g, 32, none⟩ (.int .u32 (v.toNat : Int))) g (sp c v) := by
  unfold Box
  rw [heap_setCell_same w g 32 _ t _ h, cells_sp]
theorem Box.setRow {w : World} {g : Nat} {c : Mach} (h : Box t w g c) (d : Mach) : Box t (w.setRow g (cells d)) g d := setRow_heap w g _ _ t _ h
theorem Box.new (w : World) (c : Mach) : Box t (w.alloc (.cells (cells c) t)) w.heap.size c := heap_alloc_new w _
theorem Box.alloc {w : World} {g : Nat} {c : Mach} (h : Box t w g c) (o : Obj) : Box t (w.alloc o) g c := by
  unfold Box; rw [Go.heap_alloc_old w o (h.lt)]; exact h
theorem Box.other {w : World} {g : Nat} {c : Mach} (h : Box t w g c) (a : Addr) (v : Value) (hn : g ≠ a.block) : Box t (w.setCell a v) g c := by
  unfold Box; rw [heap_setCell_other w a g v hn]; exact h
theorem Box.otherRow {w : World} {g : Nat} {c : Mach} (h : Box t w g c) (k : Nat) (cs : Array Value) (hn : g ≠ k) : Box t (w.setRow k cs) g c := by
  unfold Box; rw [setRow_other w k g cs hn]; exact h
theorem Box.below {w w' : World} {g : Nat} {c : Mach} (h : Box t w g c) (hb : Below w.heap.size w w') : Box t w' g c := by
  unfold Box; rw [hb.block g h.lt]; exact h
theorem Box.drewN {w : World} {g : Nat} {c : Mach} (h : Box t w g c) (n : Nat) : Box t (w.drewN n) g c := h
end Cp
end Go.Proofs.YtcffpmicencfpabGreat
namespace Go.Proofs.YtcffpmicencfpabGreat
open Go.RowKit Cp

def numb (imm : Int) : BitVec 32 := BitVec.ofInt 32 imm
theorem numb_cut (imm : Int) : imm % 4294967296 = ((numb imm).toNat : Int) := Wd.cut_ imm

theorem grown_setCellC (w : World) (g k : Nat) (v : Value) : w.grownBy (w.setCell ⟨g, k, none⟩ v) (some g) :=
  ⟨rfl, rfl, rfl, by simp, fun j _ hj => heap_setCell_other w _ j v (by simpa using hj)⟩
theorem cells_same (c d : Mach) : (cells c).size = (cells d).size := by rw [cells_size, cells_size]
/-- What a call that changes block g alone leaves of the world beyond. -/
theorem below_grown {B : Nat} {a w w' : World} {g : Nat} (h : Below B a w) (hg : w.grownBy w' (some g)) (hB : B ≤ g) (hs : B ≤ w.heap.size) : Below B a w' :=
  h.trans ⟨hg.os, hg.tape, hg.output, by have := hg.size; omega, fun k hk => hg.block k (by omega) (by simp; omega)⟩
theorem Box.grown {t : TypeId} {w w' : World} {g k : Nat} {c : Mach} (h : Box t w g c) (hg : w.grownBy w' (some k)) (hn : g ≠ k) : Box t w' g c := by
  unfold Box; rw [hg.block g h.lt (by simpa using hn)]; exact h

theorem fourC (p : BitVec 32) : ∃ Q : BitVec 32, ((p.toNat : Int) + 4) % 4294967296 = (Q.toNat : Int) ∧ Hid (Q = p + (BitVec.ofNat 32 4)) := ⟨p + (BitVec.ofNat 32 4), Wd.add_ p (BitVec.ofNat 32 4), rfl⟩
theorem below_row {B : Nat} {a w : World} (h : Below B a w) {g : Nat} (hg : B ≤ g) (cs : Array Value) : Below B a (w.setRow g cs) :=
  h.trans ⟨rfl, rfl, rfl, by simp, fun k hk => setRow_other w g k cs (by omega)⟩
theorem below_cell1 {B : Nat} {a w : World} (h : Below B a w) {g : Nat} (hg : B ≤ g) (i : Nat) (v : Value) : Below B a (w.setCell ⟨g, i, none⟩ v) :=
  h.trans ⟨rfl, rfl, rfl, by simp, fun k hk => heap_setCell_other w _ k v (by simp; omega)⟩
def jmp (c : Mach) (rd : Int) (to : BitVec 32) : Mach := sp (put c rd (c.pc + (BitVec.ofNat 32 4))) to
def takes (op : Int) (a b : BitVec 32) : Bool :=
  if op = 4 then a == b else if op = 5 then a != b else if op = 6 then a.slt b else if op = 7 then !(a.slt b) else if op = 8 then a.ult b else !(a.ult b)
theorem beq_nat (a b : BitVec 32) : ((a.toNat : Int) == (b.toNat : Int)) = (a == b) := by
  rw [Bool.eq_iff_iff]; simp only [beq_iff_eq]
  exact ⟨fun h => BitVec.eq_of_toNat_eq (by omega), fun h => by rw [h]⟩
theorem bne_nat (a b : BitVec 32) : ((a.toNat : Int) != (b.toNat : Int)) = (a != b) := by
  unfold bne; rw [beq_nat]
theorem ge_slt (a b : BitVec 32) : decide (b.toInt ≤ a.toInt) = !(a.slt b) := by
  rw [Bool.eq_iff_iff]; simp [BitVec.slt]
theorem ult_nat (a b : BitVec 32) : decide (a.toNat < b.toNat) = a.ult b := rfl
theorem ge_ult (a b : BitVec 32) : decide (b.toNat ≤ a.toNat) = !(a.ult b) := by
  rw [Bool.eq_iff_iff]; simp [BitVec.ult]
end Go.Proofs.YtcffpmicencfpabGreat
namespace Go.Proofs.YtcffpmicencfpabGreat
open Go.RowKit Cp Ip

/-- What a plain instruction puts into its register, and whether it is plain. -/
def reckV (c : Mach) (op rs1 rs2 imm : Int) : BitVec 32 :=
  if op = 0 then numb imm <<< 12 else if op = 1 then numb imm <<< 12 + c.pc
  else if plainB op = true then Wd.run (plainV op) (c.x rs1.toNat) (numb imm)
  else Wd.run op (c.x rs1.toNat) (c.x rs2.toNat)
def isPlain (op : Int) : Bool := decide (op = 0 ∨ op = 1 ∨ 18 ≤ op ∧ op ≤ 44)
def reckW (c : Mach) (op rs1 rs2 imm : Int) : BitVec 32 := if isPlain op = true then reckV c op rs1 rs2 imm else (BitVec.ofNat 32 0)
theorem frm_off (op : Int) (h : ¬ (0 ≤ op ∧ op < 47)) : frm op = 0 := by
  unfold frm
  by_cases h0 : 0 ≤ op
  · rw [if_pos h0]; unfold kf; rw [List.getD_eq_getElem?_getD, List.getElem?_eq_none]; rfl; simp; omega
  · rw [if_neg h0]
theorem frm_U (op : Int) : frm op = 85 ↔ op = 0 ∨ op = 1 := by
  by_cases h : 0 ≤ op ∧ op < 47
  · obtain ⟨k, rfl⟩ := Int.eq_ofNat_of_zero_le h.1
    have hk : k < 47 := by omega
    clear h
    rw [frm_nat]
    revert k
    refine cases47 ?_ ?_ ?_ ?_ ?_ ?_ ?_ ?_ ?_ ?_ ?_ ?_ ?_ ?_ ?_ ?_ ?_ ?_ ?_ ?_ ?_ ?_ ?_ ?_ ?_ ?_ ?_ ?_ ?_ ?_ ?_ ?_ ?_ ?_ ?_ ?_ ?_ ?_ ?_ ?_ ?_ ?_ ?_ ?_ ?_ ?_ ?_
    all_goals decide
  · have : frm op = 0 := frm_off op h
    rw [this]; omega
theorem frm_R (op : Int) : frm op = 82 ↔ 27 ≤ op ∧ op ≤ 44 := by
  by_cases h : 0 ≤ op ∧ op < 47
  · obtain ⟨k, rfl⟩ := Int.eq_ofNat_of_zero_le h.1
    have hk : k < 47 := by omega
    clear h
    rw [frm_nat]
    revert k
    refine cases47 ?_ ?_ ?_ ?_ ?_ ?_ ?_ ?_ ?_ ?_ ?_ ?_ ?_ ?_ ?_ ?_ ?_ ?_ ?_ ?_ ?_ ?_ ?_ ?_ ?_ ?_ ?_ ?_ ?_ ?_ ?_ ?_ ?_ ?_ ?_ ?_ ?_ ?_ ?_ ?_ ?_ ?_ ?_ ?_ ?_ ?_ ?_
    all_goals decide
  · have : frm op = 0 := frm_off op h
    rw [this]; omega
structure Fine (op rd rs1 rs2 imm : Int) : Prop where
  right : right op rd rs1 rs2 imm = true
  rd0 : 0 ≤ rd
  rd1 : rd < 32
  a0 : 0 ≤ rs1
  a1 : rs1 < 32
  b0 : 0 ≤ rs2
  b1 : rs2 < 32
theorem fit_in {r : Int} {b : Bool} (h : fit r b = true) : 0 ≤ r ∧ r < 32 := by
  unfold fit at h; split at h <;> simp at h <;> omega
theorem fine_of {op rd rs1 rs2 imm : Int} (h : right op rd rs1 rs2 imm = true) : Fine op rd rs1 rs2 imm := by
  have h' := h
  unfold Ip.right at h'
  simp only [Bool.and_eq_true] at h'
  obtain ⟨⟨⟨⟨_, h1⟩, h2⟩, h3⟩, _⟩ := h'
  exact ⟨h, (fit_in h1).1, (fit_in h1).2, (fit_in h2).1, (fit_in h2).2, (fit_in h3).1, (fit_in h3).2⟩

theorem below_box {w w' : World} {g : Nat} {c : Mach} {t : TypeId} (h : Box t w g c) (hb : Below w.heap.size w w') : Box t w' g c := h.below hb
theorem ret_pair {a b : Int} {p q : Bool} (h : a = b) (k : p = q) : Ending.returned (.tuple #[.int .u32 a, .bool p]) = .returned (.tuple #[.int .u32 b, .bool q]) := by rw [h, k]
theorem drewN_low (w : World) (n B : Nat) : Below B w (w.drewN n) := ⟨rfl, rfl, rfl, Nat.le_refl _, fun _ _ => rfl⟩
/-- An instruction in block g. -/
structure InsAt (w : World) (g : Nat) (op rd rs1 rs2 imm : Int) : Prop where
  c0 : w.cell? ⟨g, 0, none⟩ = some (.int .i64 op)
  c1 : w.cell? ⟨g, 1, none⟩ = some (.int .i64 rd)
  c2 : w.cell? ⟨g, 2, none⟩ = some (.int .i64 rs1)
  c3 : w.cell? ⟨g, 3, none⟩ = some (.int .i64 rs2)
  c4 : w.cell? ⟨g, 4, none⟩ = some (.int .i64 imm)
  lt : g < w.heap.size
theorem InsAt.new (w : World) (op rd rs1 rs2 imm : Int) (t : TypeId) : InsAt (w.alloc (.cells #[.int .i64 op, .int .i64 rd, .int .i64 rs1, .int .i64 rs2, .int .i64 imm] t)) w.heap.size op rd rs1 rs2 imm := by
  constructor <;> first | (rw [World.cell?_alloc_at _ _ _ _ rfl]; rfl) | simp
theorem InsAt.below {w w' : World} {g : Nat} {op rd rs1 rs2 imm : Int} (h : InsAt w g op rd rs1 rs2 imm) (hb : Below w.heap.size w w') : InsAt w' g op rd rs1 rs2 imm := by
  obtain ⟨q, _⟩ := bcell hb
  exact ⟨(q _ _ h.lt).trans h.c0, (q _ _ h.lt).trans h.c1, (q _ _ h.lt).trans h.c2, (q _ _ h.lt).trans h.c3, (q _ _ h.lt).trans h.c4, Nat.lt_of_lt_of_le h.lt hb.size⟩
/-- A number of u32 behind a letter. -/
theorem word_of (x : BitVec 32) : ∃ X : BitVec 32, Hid (X = x) := ⟨x, rfl⟩

theorem isPlain_is (op : Int) : isPlain op = decide (frm op = 85 ∨ frm op = 82 ∨ plainB op = true) := by
  unfold isPlain plainB
  rw [Bool.eq_iff_iff]; simp only [decide_eq_true_eq, frm_U, frm_R]; omega

end Go.Proofs.YtcffpmicencfpabGreat
namespace Go.Proofs.YtcffpmicencfpabGreat
open Go.RowKit Cp Ip

theorem results_row_tmpC {P : Program} {fn : Func} {p u : Tmp} {ty : TypeId} (h : fn.results = #[.cell p ty, .tmp u]) (tmps : Array Value) (w : World) (g : Nat) (t : TypeId) (cs : Array Value) (fr : Nat × Nat) (d : TypeDesc)
    (hp : tmps.getD p undef = .pointer (some ⟨g, 0, none⟩)) (hg : w.heap[g]? = some (.cells cs t fr))
    (hu : P.underlying ty = some d) (hd : (match d with | .struct _ | .array _ _ => true | _ => false) = true) (hi : (P.info? ty).map (·.size) = some cs.size) :
    (results fn tmps).run P w = .ok (.tuple #[.agg cs, tmps.getD u undef]) w := by
  have hp' : tmps[p]?.getD undef = .pointer (some ⟨g, 0, none⟩) := by simpa using hp
  simp [results, h, hp', asAddr, run_loadVar_row w g t ty cs fr d hg hu hd hi]

theorem insAt_other {w : World} {g : Nat} {op rd rs1 rs2 imm : Int} (h : InsAt w g op rd rs1 rs2 imm) (a : Addr) (v : Value) (hn : g ≠ a.block) : InsAt (w.setCell a v) g op rd rs1 rs2 imm := by
  have q : ∀ o, (w.setCell a v).cell? ⟨g, o, none⟩ = w.cell? ⟨g, o, none⟩ := fun o => by
    unfold World.cell?; rw [heap_setCell_other w a g v hn]
  exact ⟨(q _).trans h.c0, (q _).trans h.c1, (q _).trans h.c2, (q _).trans h.c3, (q _).trans h.c4, by simpa using h.lt⟩
theorem insAt_alloc {w : World} {g : Nat} {op rd rs1 rs2 imm : Int} (h : InsAt w g op rd rs1 rs2 imm) (o : Obj) : InsAt (w.alloc o) g op rd rs1 rs2 imm :=
  h.below ((Below.refl _ _).alloc (Nat.le_refl _) _)
theorem cells_zr (c : Mach) : (cells c).setIfInBounds 0 (.int .u32 0) = cells (zr c) := cells_sx c 0 (by omega) (BitVec.ofNat 32 0)

def doesB (op rd rs1 rs2 imm : Int) : Bool := right op rd rs1 rs2 imm && isPlain op
def doesM (c : Mach) (op rd rs1 rs2 imm : Int) : Mach := if doesB op rd rs1 rs2 imm = true then onw (zr c) rd (reckV (zr c) op rs1 rs2 imm) else zr c

end Go.Proofs.YtcffpmicencfpabGreat
