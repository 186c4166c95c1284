/-
  Contracts of package elf: pieces and numbers of a file.
-/
import Derived.Test.YtkfomhllaogplaaEE
namespace Go.Proofs.Ytkfomhllaogplaa
open Go.RowKit El Go.Lib
open Classical
set_option linter.unusedSimpArgs false

theorem ext_mid (s : List UInt8) (a n : Nat) : (⟨s.toArray⟩ : ByteArray).extract a (a + n) = ⟨((s.drop a).take n).toArray⟩ := by
  apply ByteArray.ext
  rw [ByteArray.data_extract]
  apply Array.toList_inj.1
  rw [Array.toList_extract]
  simp
theorem or_nat (k a b : Nat) (ha : a < 2 ^ k) (h : a + 2 ^ k * b < 4294967296) : bits .or .u32 (a : Int) ((2 ^ k * b : Nat) : Int) = ((a + 2 ^ k * b : Nat) : Int) := by
  rw [u32_or_nat _ _ (by omega) (by omega), Nat.or_comm, ← Nat.two_pow_add_eq_or_of_lt ha]
  congr 1; omega
theorem or2 (b0 b1 : UInt8) : bits .or .u32 ((b0.toNat : Int) % 4294967296) ((b1.toNat : Int) % 4294967296 * 256 % 4294967296) = ((b0.toNat + 256 * b1.toNat : Nat) : Int) := by
  have h0 := b0.toNat_lt
  have h1 := b1.toNat_lt
  have := or_nat 8 b0.toNat b1.toNat (by omega) (by omega)
  rw [show (b0.toNat : Int) % 4294967296 = (b0.toNat : Int) by omega, show (b1.toNat : Int) % 4294967296 * 256 % 4294967296 = ((2 ^ 8 * b1.toNat : Nat) : Int) by omega]
  exact this
theorem or4 (x y : Nat) (hx : x < 65536) (hy : y < 65536) : bits .or .u32 (x : Int) ((y : Int) * 65536 % 4294967296) = ((x + 65536 * y : Nat) : Int) := by
  have := or_nat 16 x y (by omega) (by omega)
  rw [show (y : Int) * 65536 % 4294967296 = ((2 ^ 16 * y : Nat) : Int) by omega]
  exact this
theorem lists_eq (a b : List UInt8) : (a == b) = decide (a = b) := by by_cases h : a = b <;> simp [h]
theorem below_setRowE {B : Nat} {a w : World} (h : Below B a w) {g : Nat} (hg : B ≤ g) (cs : Array Value) : Below B a (w.setRow g cs) :=
  h.trans ⟨rfl, rfl, rfl, by simp, fun k hk => setRow_other w g k cs (by omega)⟩
theorem drew_low (w : World) (n : Nat) (B : Nat) : Below B w (w.drewN n) := ⟨rfl, rfl, rfl, Nat.le_refl _, fun _ _ => rfl⟩
abbrev Z6 : Array Value := #[.int .u32 0, .int .u32 0, .int .u32 0, .int .u32 0, .int .u32 0, .int .u32 0]
end Go.Proofs.Ytkfomhllaogplaa
