/-
  Masks and joined texts, for the laws of layer 6.
-/
import Derived.Test.YtkfomhllaogplaaEV
namespace Go.Proofs.Ytkfomhllaogplaa
open Go.RowKit El Go.Lib
open Classical
set_option linter.unusedSimpArgs false

theorem mask64 (k : Nat) (hk : k ≤ 62) (c : Int) : ∃ d : Nat, d < 2 ^ k ∧ bits .and .i64 c ((2 ^ k - 1 : Nat) : Int) = (d : Int) := by
  have hp : 2 ^ k ≤ 2 ^ 62 := Nat.pow_le_pow_right (by omega) hk
  have hp0 : 0 < 2 ^ k := Nat.pow_pos (by decide)
  refine ⟨(BitVec.ofInt 64 c &&& BitVec.ofInt 64 ((2 ^ k - 1 : Nat) : Int)).toNat, ?_, ?_⟩
  · rw [BitVec.toNat_and]
    refine Nat.lt_of_le_of_lt Nat.and_le_right ?_
    rw [BitVec.ofInt_natCast, BitVec.toNat_ofNat, Nat.mod_eq_of_lt (by omega)]; omega
  · have e : bits .and .i64 c ((2 ^ k - 1 : Nat) : Int) = IntKind.i64.wrap ((BitVec.ofInt 64 c &&& BitVec.ofInt 64 ((2 ^ k - 1 : Nat) : Int)).toNat : Int) := rfl
    have hl : (BitVec.ofInt 64 c &&& BitVec.ofInt 64 ((2 ^ k - 1 : Nat) : Int)).toNat < 2 ^ k := by
      rw [BitVec.toNat_and]
      refine Nat.lt_of_le_of_lt Nat.and_le_right ?_
      rw [BitVec.ofInt_natCast, BitVec.toNat_ofNat, Nat.mod_eq_of_lt (by omega)]; omega
    rw [e, wrE (by omega) (by omega)]
theorem mask24 (c : Int) : ∃ d : Nat, d < 16777216 ∧ bits .and .i64 c 16777215 = (d : Int) := mask64 24 (by omega) c
theorem mask16 (c : Int) : ∃ d : Nat, d < 65536 ∧ bits .and .i64 c 65535 = (d : Int) := mask64 16 (by omega) c
theorem mask2 (c : Int) : ∃ d : Nat, d < 4 ∧ bits .and .i64 c 3 = (d : Int) := mask64 2 (by omega) c
theorem cat_lists (a b : List UInt8) : (⟨a.toArray⟩ : ByteArray) ++ ⟨b.toArray⟩ = ⟨(a ++ b).toArray⟩ := by
  apply ByteArray.ext
  simp
end Go.Proofs.Ytkfomhllaogplaa
