/-
  Plain facts on products, quotients and shifts of words, for the document's own way of reckoning them. No program in sight.
-/
import Derived.Test.YtilphdfobflbiaaM2
namespace Go.Proofs.Ytilphdfobflbiaa
open Go.RowKit
namespace Wd

theorem hi_sub (p c : Int) : hi (p - 4294967296 * c) = hi p - BitVec.ofInt 32 c := by
  unfold hi
  apply BitVec.eq_of_toNat_eq
  rw [← toNat_natCast_inj, ← sub_, ← cut_, ← cut_, ← cut_]
  omega
theorem hi_nat (a b : BitVec 32) : hi ((a.toNat : Int) * (b.toNat : Int)) = run 40 a b := by
  show hi ((a.toNat : Int) * (b.toNat : Int)) = BitVec.ofNat 32 (a.toNat * b.toNat / 4294967296)
  unfold hi
  apply BitVec.eq_of_toNat_eq
  rw [← toNat_natCast_inj, ← cut_, ← hi_uu]
  have h := produu_in a b
  omega
theorem ofInt_nat (b : BitVec 32) : BitVec.ofInt 32 (b.toNat : Int) = b := by
  apply BitVec.eq_of_toNat_eq
  rw [← toNat_natCast_inj, ← cut_]
  have := b.isLt
  omega
theorem toInt_neg (a : BitVec 32) (h : (2147483648 : Int) ≤ (a.toNat : Int)) : a.toInt = (a.toNat : Int) - 4294967296 := by
  rw [BitVec.toInt_eq_toNat_cond]; split <;> omega
theorem toInt_pos (a : BitVec 32) (h : (a.toNat : Int) < 2147483648) : a.toInt = (a.toNat : Int) := by
  have := a.isLt
  rw [BitVec.toInt_eq_toNat_cond]; split <;> omega
theorem su_neg (a b : BitVec 32) (h : (2147483648 : Int) ≤ (a.toNat : Int)) : run 39 a b = run 40 a b - b := by
  show hi (a.toInt * b.toNat) = _
  rw [toInt_neg a h, Int.sub_mul, hi_sub, hi_nat, ofInt_nat]
theorem su_pos (a b : BitVec 32) (h : (a.toNat : Int) < 2147483648) : run 39 a b = run 40 a b := by
  show hi (a.toInt * b.toNat) = _
  rw [toInt_pos a h, hi_nat]
theorem ss_pos (a b : BitVec 32) (h : (b.toNat : Int) < 2147483648) : run 38 a b = run 39 a b := by
  show hi (a.toInt * b.toInt) = hi (a.toInt * b.toNat)
  rw [toInt_pos b h]
theorem ss_neg (a b : BitVec 32) (h : (2147483648 : Int) ≤ (b.toNat : Int)) : run 38 a b = run 39 a b - a := by
  show hi (a.toInt * b.toInt) = hi (a.toInt * b.toNat) - a
  rw [toInt_neg b h, Int.mul_sub, Int.mul_comm a.toInt 4294967296, hi_sub, BitVec.ofInt_toInt]
theorem halves (x y : BitVec 32) (al ah bl bh : Int) (h1 : (x.toNat : Int) % 65536 = al) (h2 : (x.toNat : Int) / 65536 = ah) (h3 : (y.toNat : Int) % 65536 = bl) (h4 : (y.toNat : Int) / 65536 = bh) :
    (ah * bh + ah * bl / 65536 + al * bh / 65536 + (al * bl / 65536 + ah * bl % 65536 + al * bh % 65536) / 65536) % 4294967296 = ((run 40 x y).toNat : Int) := by
  rw [← hi_nat, ← hi_]
  have ex : (x.toNat : Int) = al + 65536 * ah := by omega
  have ey : (y.toNat : Int) = bl + 65536 * bh := by omega
  have e : (x.toNat : Int) * (y.toNat : Int) = al * bl + 65536 * (ah * bl) + 65536 * (al * bh) + 4294967296 * (ah * bh) := by
    rw [ex, ey, Int.add_mul, Int.mul_add, Int.mul_add, Int.mul_left_comm al 65536 bh, Int.mul_assoc 65536 ah bl, Int.mul_assoc 65536 ah (65536 * bh), Int.mul_left_comm ah 65536 bh]
    omega
  rw [e]
  omega
theorem prod_bound (a b m n : Int) (h1 : 0 ≤ a) (h2 : a ≤ m) (h3 : 0 ≤ b) (h4 : b ≤ n) : 0 ≤ a * b ∧ a * b ≤ m * n :=
  ⟨Int.mul_nonneg h1 h3, Int.mul_le_mul h2 h4 h3 (by omega)⟩
theorem tmod_sub (a b : Int) : a - a.tdiv b * b = a.tmod b := by
  have := Int.tmod_add_mul_tdiv a b
  have c := Int.mul_comm b (a.tdiv b)
  omega
end Wd
end Go.Proofs.Ytilphdfobflbiaa
