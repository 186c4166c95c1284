/-
  Contracts of the document's answer for layer 1 (fields): each comes to the same plain function as the program's own.
-/
import Derived.Deep.QuietTactic
import Derived.BigQuiet
import Derived.Test.YtcffpmicencfpabZa
namespace Go.Proofs.Ytcffpmicencfpab
open Go.RowKit

/-- A block of 32 words of 0 or 1, each as told; none of its cells is frozen. -/
structure Row (w : World) (B : Nat) (f : Nat → Bool) : Prop where
  size : B < w.heap.size
  cell : ∀ j, j < 32 → w.cell? ⟨B, j, none⟩ = some (.int .u32 ((Wd.one (f j)).toNat : Int))
  free : ∀ j, w.frozen? ⟨B, j, none⟩ = false

theorem Row.drewN {w : World} {B : Nat} {f : Nat → Bool} (h : Row w B f) (n : Nat) : Row (w.drewN n) B f := ⟨h.size, h.cell, h.free⟩
theorem Row.congr {w : World} {B : Nat} {f g : Nat → Bool} (h : Row w B f) (e : ∀ j, j < 32 → f j = g j) : Row w B g :=
  ⟨h.size, fun j hj => by rw [h.cell j hj, e j hj], h.free⟩
theorem Row.set {w : World} {B : Nat} {f : Nat → Bool} (h : Row w B f) (k : Nat) (hk : k < 32) (b : Bool) :
    Row (w.setCell ⟨B, k, none⟩ (.int .u32 ((Wd.one b).toNat : Int))) B (fun j => if j = k then b else f j) := by
  refine ⟨by rw [World.size_setCell]; exact h.size, fun j hj => ?_, fun j => by rw [World.frozen?_setCell]; exact h.free j⟩
  by_cases e : j = k
  · subst e; rw [World.cell?_setCell_same _ _ _ (h.cell j hj)]; simp
  · rw [World.cell?_setCell_other _ _ _ _ (by intro c; apply e; injection c with _ c2; exact c2.symm), h.cell j hj]; simp [e]

def bitAt (x : BitVec 32) (k : Int) : Bool := decide (0 ≤ k) && x.getLsbD k.toNat

theorem bit_nat (x : BitVec 32) (k : Nat) : bits .and .u32 ((x.toNat : Int) / 2 ^ k) 1 = ((Wd.one (x.getLsbD k)).toNat : Int) := by
  rw [Wd.shr_, show (1 : Int) = (((BitVec.ofNat 32 1)).toNat : Int) from rfl, Wd.and_]
  congr 2
  apply BitVec.eq_of_getLsbD_eq; intro i hi
  rw [BitVec.getLsbD_and, BitVec.getLsbD_ushiftRight]
  unfold Wd.one
  by_cases h : i = 0
  · subst h; cases x.getLsbD k <;> simp
  · have e : ((BitVec.ofNat 32 1)).getLsbD i = false := by simp [BitVec.getLsbD_one, h]
    rw [e]; cases x.getLsbD k <;> simp [h]

def top (x : BitVec 32) (k : Nat) : BitVec 32 := x >>> k
theorem of_step (x : BitVec 32) (k : Nat) (_h : k < 32) : (((x >>> (k + 1)).toNat : Int) * 2 + ((Wd.one (x.getLsbD k)).toNat : Int)) % 4294967296 = ((x >>> k).toNat : Int) := by
  rw [BitVec.toNat_ushiftRight, BitVec.toNat_ushiftRight, Nat.shiftRight_eq_div_pow, Nat.shiftRight_eq_div_pow]
  have e : ((Wd.one (x.getLsbD k)).toNat : Int) = ((x.toNat / 2 ^ k % 2 : Nat) : Int) := by
    have : x.getLsbD k = decide (x.toNat / 2 ^ k % 2 = 1) := by
      rw [BitVec.getLsbD, Nat.testBit_eq_decide_div_mod_eq]
    rw [this]; unfold Wd.one
    rcases Nat.mod_two_eq_zero_or_one (x.toNat / 2 ^ k) with h | h <;> simp [h]
  have d : x.toNat / 2 ^ (k + 1) = x.toNat / 2 ^ k / 2 := by rw [Nat.pow_succ, Nat.div_div_eq_div_mul]
  have l : x.toNat / 2 ^ k ≤ x.toNat := Nat.div_le_self _ _
  have := x.isLt
  rw [e, d]
  generalize x.toNat / 2 ^ k = y at *
  omega

theorem top_step (x : BitVec 32) (k : Nat) (h : k < 32) : (((top x (k + 1)).toNat : Int) * 2 % 4294967296 + ((Wd.one (x.getLsbD k)).toNat : Int)) % 4294967296 = ((top x k).toNat : Int) := by
  have e := of_step x k h
  unfold top; omega
theorem top_zero (x : BitVec 32) : top x 0 = x := by unfold top; simp
theorem shr_all (x : BitVec 32) : x >>> 32 = (BitVec.ofNat 32 0) := by
  apply BitVec.eq_of_toNat_eq; rw [BitVec.toNat_ushiftRight, Nat.shiftRight_eq_div_pow]; have := x.isLt; simp; omega

/-- What 'make' of 32 words leaves. -/
theorem made (w : World) : (Instr.makeSlice 30 (.int .i64 32) (.int .i64 32)).run Try.prog w = .ok (.slice (some ⟨w.heap.size, 0, none⟩) 32 32) (w.alloc (.cells (Array.replicate 32 (.int .u32 0)) 24)) := by kernel_rfl

theorem Row.made (w : World) : Row (w.alloc (.cells (Array.replicate 32 (.int .u32 0)) 24)) w.heap.size (fun _ => false) := by
  refine ⟨by rw [World.size_alloc]; omega, fun j hj => ?_, fun j => World.frozen?_alloc_at _ _ _ _ rfl⟩
  rw [World.cell?_alloc_at _ _ _ _ rfl]
  simp [hj, Wd.one]

theorem bitAt_add (x : BitVec 32) (a : Int) (k : Nat) (h : 0 ≤ a) : bitAt x (a + (k : Int)) = x.getLsbD (a.toNat + k) := by
  unfold bitAt; rw [decide_eq_true (by omega), show (a + (k : Int)).toNat = a.toNat + k by omega]; rfl

end Go.Proofs.Ytcffpmicencfpab
