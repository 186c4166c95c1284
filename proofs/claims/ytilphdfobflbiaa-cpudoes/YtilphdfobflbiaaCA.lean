/-
  A machine, plainly: 32 registers and the address of the next instruction; its cells in memory. No program in sight.
-/
import Derived.Test.YtilphdfobflbiaaM
import Derived.WalkKit
import Derived.Deep.WholeRow
import Derived.Deep.QuietTactic
import Derived.BigQuiet
namespace Go.Proofs.Ytilphdfobflbiaa
open Go.RowKit

namespace Cp
structure Mach where
  x : Nat → BitVec 32
  pc : BitVec 32
def row (f : Nat → BitVec 32) (n : Nat) : List Value := (List.range n).map fun i => Value.int .u32 ((f i).toNat : Int)
def cells (c : Mach) : Array Value := (row c.x 32 ++ [Value.int .u32 (c.pc.toNat : Int)]).toArray
def sx (c : Mach) (i : Nat) (v : BitVec 32) : Mach := ⟨fun j => if j = i then v else c.x j, c.pc⟩
def sp (c : Mach) (v : BitVec 32) : Mach := ⟨c.x, v⟩
def zr (c : Mach) : Mach := sx c 0 (BitVec.ofNat 32 0)
def put (c : Mach) (rd : Int) (v : BitVec 32) : Mach := if rd = 0 then c else sx c rd.toNat v
def onw (c : Mach) (rd : Int) (v : BitVec 32) : Mach := sp (put c rd v) (c.pc + (BitVec.ofNat 32 4))
def nought : Mach := ⟨fun _ => (BitVec.ofNat 32 0), (BitVec.ofNat 32 0)⟩

theorem row_len (f : Nat → BitVec 32) (n : Nat) : (row f n).length = n := by simp [row]
theorem row_at (f : Nat → BitVec 32) (n i : Nat) (h : i < n) : (row f n)[i]? = some (.int .u32 ((f i).toNat : Int)) := by simp [row, h]
theorem cells_size (c : Mach) : (cells c).size = 33 := by simp [cells, row_len]
theorem cells_x (c : Mach) (i : Nat) (h : i < 32) : (cells c)[i]? = some (.int .u32 ((c.x i).toNat : Int)) := by
  unfold cells
  rw [List.getElem?_toArray, List.getElem?_append_left (by rw [row_len]; exact h), row_at _ _ _ h]
theorem cells_pc (c : Mach) : (cells c)[32]? = some (.int .u32 (c.pc.toNat : Int)) := by
  unfold cells
  rw [List.getElem?_toArray, List.getElem?_append_right (by rw [row_len]; omega), row_len]; rfl
theorem cells_out (c : Mach) (i : Nat) (h : 33 ≤ i) : (cells c)[i]? = none := by
  rw [Array.getElem?_eq_none]; rw [cells_size]; exact h
theorem cells_sx (c : Mach) (i : Nat) (h : i < 32) (v : BitVec 32) : (cells c).setIfInBounds i (.int .u32 (v.toNat : Int)) = cells (sx c i v) := by
  apply Array.ext_getElem?
  intro j
  rw [Array.getElem?_setIfInBounds]
  by_cases hj : i = j
  · subst hj
    rw [if_pos rfl, cells_x _ _ h]
    simp [cells_size, sx]; omega
  · rw [if_neg hj]
    rcases Nat.lt_trichotomy j 32 with h1 | h1 | h1
    · rw [cells_x _ _ h1, cells_x _ _ h1]; simp [sx]; rw [if_neg (fun e => hj e.symm)]
    · subst h1; rw [cells_pc, cells_pc]; rfl
    · rw [cells_out _ _ (by omega), cells_out _ _ (by omega)]
theorem cells_sp (c : Mach) (v : BitVec 32) : (cells c).setIfInBounds 32 (.int .u32 (v.toNat : Int)) = cells (sp c v) := by
  apply Array.ext_getElem?
  intro j
  rw [Array.getElem?_setIfInBounds]
  by_cases hj : 32 = j
  · subst hj
    rw [if_pos rfl, cells_pc]
    simp [cells_size, sp]
  · rw [if_neg hj]
    rcases Nat.lt_trichotomy j 32 with h1 | h1 | h1
    · rw [cells_x _ _ h1, cells_x _ _ h1]; rfl
    · omega
    · rw [cells_out _ _ (by omega), cells_out _ _ (by omega)]
theorem cells_one (c : Mach) : (cells c).all (·.oneCell') = true := by
  rw [Array.all_eq_true_iff_forall_mem]
  intro v hv
  unfold cells at hv
  simp only [List.mem_toArray, List.mem_append, List.mem_singleton] at hv
  rcases hv with hv | rfl
  · simp only [row, List.mem_map] at hv
    obtain ⟨i, _, rfl⟩ := hv; rfl
  · rfl
theorem cells_nought : cells nought = Array.replicate 33 (.int .u32 0) := by rfl
theorem sx_self (c : Mach) (i : Nat) (v : BitVec 32) : (sx c i v).x i = v := by simp [sx]
theorem sx_other (c : Mach) (i j : Nat) (h : j ≠ i) (v : BitVec 32) : (sx c i v).x j = c.x j := by simp [sx, h]
theorem zr_zr (c : Mach) : zr (zr c) = zr c := by
  unfold zr sx; congr 1; funext j; by_cases h : j = 0 <;> simp [h]
theorem put_pc (c : Mach) (rd : Int) (v : BitVec 32) : (put c rd v).pc = c.pc := by unfold put; split <;> rfl

/-- A machine in block g of the world. -/
def Box (t : TypeId) (w : World) (g : Nat) (c : Mach) : Prop := w.heap[g]? = some (.cells (cells c) t (0, 0))
variable {t : TypeId}
theorem Box.lt {w : World} {g : Nat} {c : Mach} (h : Box t w g c) : g < w.heap.size := (Array.getElem?_eq_some_iff.1 h).1
theorem Box.reg {w : World} {g : Nat} {c : Mach} (h : Box t w g c) (i : Nat) (hi : i < 32) : w.cell? ⟨g, i, none⟩ = some (.int .u32 ((c.x i).toNat : Int)) := by
  rw [cell_of_row w g i _ t (0, 0) h, cells_x _ _ hi]
theorem Box.at {w : World} {g : Nat} {c : Mach} (h : Box t w g c) : w.cell? ⟨g, 32, none⟩ = some (.int .u32 (c.pc.toNat : Int)) := by
  rw [cell_of_row w g 32 _ t (0, 0) h, cells_pc]
theorem Box.free {w : World} {g : Nat} {c : Mach} (h : Box t w g c) (i : Nat) : w.frozen? ⟨g, i, none⟩ = false := frozen_of_row w g i _ t h
theorem Box.setx {w : World} {g : Nat} {c : Mach} (h : Box t w g c) (i : Nat) (hi : i < 32) (v : BitVec 32) : Box t (w.setCell ⟨g, i, none⟩ (.int .u32 (v.toNat : Int))) g (sx c i v) := by
  unfold Box
  rw [heap_setCell_same w g i _ t _ h, cells_sx _ _ hi]
theorem Box.setp {w : World} {g : Nat} {c : Mach} (h : Box t w g c) (v : BitVec 32) : Box t (w.setCell ⟨g, 32, none⟩ (.int .u32 (v.toNat : Int))) g (sp c v) := by
  unfold Box
  rw [heap_setCell_same w g 32 _ t _ h, cells_sp]
theorem Box.setRow {w : World} {g : Nat} {c : Mach} (h : Box t w g c) (d : Mach) : Box t (w.setRow g (cells d)) g d := setRow_heap w g _ _ t _ h
theorem Box.new (w : World) (c : Mach) : Box t (w.alloc (.cells (cells c) t)) w.heap.size c := heap_alloc_new w _
theorem Box.alloc {w : World} {g : Nat} {c : Mach} (h : Box t w g c) (o : Obj) : Box t (w.alloc o) g c := by
  unfold Box; rw [Go.heap_alloc_old w o (h.lt)]; exact h
theorem Box.other {w : World} {g : Nat} {c : Mach} (h : Box t w g c) (a : Addr) (v : Value) (hn : g ≠ a.block) : Box t (w.setCell a v) g c := by
  unfold Box; rw [heap_setCell_other w a g v hn]; exact h
theorem Box.otherRow {w : World} {g : Nat} {c : Mach} (h : Box t w g c) (k : Nat) (cs : Array Value) (hn : g ≠ k) : Box t (w.setRow k cs) g c := by
  unfold Box; rw [setRow_other w k g cs hn]; exact h
theorem Box.below {w w' : World} {g : Nat} {c : Mach} (h : Box t w g c) (hb : Below w.heap.size w w') : Box t w' g c := by
  unfold Box; rw [hb.block g h.lt]; exact h
theorem Box.drewN {w : World} {g : Nat} {c : Mach} (h : Box t w g c) (n : Nat) : Box t (w.drewN n) g c := h
end Cp
end Go.Proofs.Ytilphdfobflbiaa
