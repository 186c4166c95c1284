/-
  Words of instructions as numbers: what is put in is added; what each form's word comes to. No program in sight.
-/
import Derived.Test.YtilphdfobflbiaaIP
namespace Go.Proofs.Ytilphdfobflbiaa
open Go.RowKit
namespace Ip

theorem field_nat (x : BitVec 32) (a n : Int) (A N : Nat) (hA : a = A) (hN : n = N) (h : 1 ≤ N) (h2 : A + N ≤ 32) : (Wd.field x a n).toNat = x.toNat / 2 ^ A % 2 ^ N := by
  subst hA hN
  have hw := Wd.within_of (A : Int) (N : Int) (by omega)
  unfold Wd.field
  rw [if_pos hw, BitVec.toNat_and, Wd.mask_toNat _ (by omega), Nat.and_two_pow_sub_one_eq_mod, BitVec.toNat_ushiftRight, Nat.shiftRight_eq_div_pow]
  simp

theorem put_parts (x v : BitVec 32) (a n : Int) (A N : Nat) (hA : a = A) (hN : n = N) (h : 1 ≤ N) (h2 : A + N ≤ 32) :
    (Wd.put x a n v).toNat % 2 ^ A = x.toNat % 2 ^ A ∧ (Wd.put x a n v).toNat / 2 ^ A % 2 ^ N = v.toNat % 2 ^ N ∧ (Wd.put x a n v).toNat / 2 ^ (A + N) = x.toNat / 2 ^ (A + N) := by
  subst hA hN
  have hw := Wd.within_of (A : Int) (N : Int) (by omega)
  have big : ∀ (y : BitVec 32) i, 32 ≤ i → y.toNat.testBit i = false := fun y i hi => Nat.testBit_lt_two_pow (Nat.lt_of_lt_of_le y.isLt (Nat.pow_le_pow_right (by omega) hi))
  have hg : ∀ i, (Wd.put x (A : Int) (N : Int) v).toNat.testBit i = if A ≤ i ∧ i < A + N then v.toNat.testBit (i - A) else x.toNat.testBit i := by
    intro i
    by_cases hi : i < 32
    · have := Wd.put_get x (A : Int) (N : Int) v hw i hi
      simp only [Int.toNat_natCast] at this
      exact this
    · rw [big _ i (by omega), if_neg (by omega), big _ i (by omega)]
  refine ⟨?_, ?_, ?_⟩
  · apply Nat.eq_of_testBit_eq; intro i
    rw [Nat.testBit_mod_two_pow, Nat.testBit_mod_two_pow, hg]
    by_cases h : i < A
    · rw [if_neg (by omega)]
    · simp [h]
  · apply Nat.eq_of_testBit_eq; intro i
    rw [Nat.testBit_mod_two_pow, Nat.testBit_mod_two_pow, Nat.testBit_div_two_pow, hg]
    by_cases h : i < N
    · rw [if_pos (by omega), show i + A - A = i by omega]
    · simp [h]
  · apply Nat.eq_of_testBit_eq; intro i
    rw [Nat.testBit_div_two_pow, Nat.testBit_div_two_pow, hg, if_neg (by omega)]

theorem put_apart (x v : BitVec 32) (a n : Int) (A N B M : Nat) (hA : a = A) (hN : n = N) (h : 1 ≤ N) (h2 : A + N ≤ 32) (hd : B + M ≤ A ∨ A + N ≤ B) :
    (Wd.put x a n v).toNat / 2 ^ B % 2 ^ M = x.toNat / 2 ^ B % 2 ^ M := by
  subst hA hN
  have hw := Wd.within_of (A : Int) (N : Int) (by omega)
  have big : ∀ (y : BitVec 32) i, 32 ≤ i → y.toNat.testBit i = false := fun y i hi => Nat.testBit_lt_two_pow (Nat.lt_of_lt_of_le y.isLt (Nat.pow_le_pow_right (by omega) hi))
  have hg : ∀ i, (Wd.put x (A : Int) (N : Int) v).toNat.testBit i = if A ≤ i ∧ i < A + N then v.toNat.testBit (i - A) else x.toNat.testBit i := by
    intro i
    by_cases hi : i < 32
    · have := Wd.put_get x (A : Int) (N : Int) v hw i hi
      simp only [Int.toNat_natCast] at this
      exact this
    · rw [big _ i (by omega), if_neg (by omega), big _ i (by omega)]
  apply Nat.eq_of_testBit_eq; intro i
  rw [Nat.testBit_mod_two_pow, Nat.testBit_mod_two_pow, Nat.testBit_div_two_pow, Nat.testBit_div_two_pow, hg]
  by_cases h : i < M
  · rw [if_neg (by omega)]
  · simp [h]

theorem put_add (x v : BitVec 32) (a n : Int) (A N : Nat) (hA : a = A) (hN : n = N) (h : 1 ≤ N) (h2 : A + N ≤ 32) (hz : x.toNat / 2 ^ A % 2 ^ N = 0) :
    (Wd.put x a n v).toNat = x.toNat + 2 ^ A * (v.toNat % 2 ^ N) := by
  obtain ⟨p1, p2, p3⟩ := put_parts x v a n A N hA hN h h2
  rw [Nat.pow_add, ← Nat.div_div_eq_div_mul, ← Nat.div_div_eq_div_mul] at p3
  have d := fun y : Nat => Nat.div_add_mod y (2 ^ A)
  have e := fun y : Nat => Nat.div_add_mod (y / 2 ^ A) (2 ^ N)
  have a1 := d x.toNat
  have a2 := d (Wd.put x a n v).toNat
  have b1 := e x.toNat
  have b2 := e (Wd.put x a n v).toNat
  rw [hz, Nat.add_zero] at b1
  rw [p2, p3] at b2
  rw [p1, ← b2, Nat.mul_add, b1] at a2
  generalize 2 ^ A * (x.toNat / 2 ^ A) = q1 at *
  generalize 2 ^ A * (v.toNat % 2 ^ N) = q2 at *
  omega
theorem put_none (x v : BitVec 32) : Wd.put x 0 0 v = x := by unfold Wd.put; rw [if_neg (by decide)]
theorem ofInt_nat (n : Int) : ((BitVec.ofInt 32 n).toNat : Int) = n % 4294967296 := (Wd.cut_ n).symm

theorem sign_int (v : BitVec 32) (n : Int) (N : Nat) (hn : n = N) (h1 : 1 ≤ N) (h2 : N ≤ 31) (hv : v.toNat < 2 ^ N) : (Wd.sign v n).toInt = if v.toNat < 2 ^ (N - 1) then (v.toNat : Int) else (v.toNat : Int) - 2 ^ N := by
  subst hn
  have hb : v.getLsbD (N - 1) = decide (2 ^ (N - 1) ≤ v.toNat) := by
    rw [BitVec.getLsbD, Nat.testBit_eq_decide_div_mod_eq]
    have e : 2 ^ N = 2 * 2 ^ (N - 1) := by rw [← Nat.pow_succ']; congr 1; omega
    have p : 0 < 2 ^ (N - 1) := Nat.pow_pos (by omega)
    congr 1
    rw [eq_iff_iff]
    constructor
    · intro h
      apply Nat.le_of_not_lt
      intro hc
      rw [Nat.div_eq_of_lt hc] at h; omega
    · intro h
      have : v.toNat / 2 ^ (N - 1) = 1 := by
        apply Nat.div_eq_of_lt_le <;> omega
      rw [this]
  have hm : (Wd.mask N).toNat = 2 ^ N - 1 := Wd.mask_toNat N (by omega)
  have hlt : 2 ^ N ≤ 2 ^ 31 := Nat.pow_le_pow_right (by omega) h2
  have hand : (v &&& Wd.mask N) = v := by
    apply BitVec.eq_of_toNat_eq
    rw [BitVec.toNat_and, hm, Nat.and_two_pow_sub_one_eq_mod, Nat.mod_eq_of_lt hv]
  unfold Wd.sign
  rw [if_pos (by omega), Int.toNat_natCast, hb]
  by_cases h : v.toNat < 2 ^ (N - 1)
  · rw [if_neg (by simpa using h), if_pos h, hand, BitVec.toInt_eq_toNat_cond, if_pos (by omega)]
  · rw [if_pos (by simpa using h), if_neg h]
    have hs : (v ||| ~~~ Wd.mask N) = v + ~~~ Wd.mask N := by
      rw [BitVec.add_eq_or_of_and_eq_zero]
      rw [← hand, BitVec.and_assoc]; simp
    have hn : (v + ~~~ Wd.mask N).toNat = v.toNat + (4294967296 - 2 ^ N) := by
      rw [BitVec.toNat_add, BitVec.toNat_not, hm, Nat.mod_eq_of_lt (by omega)]; omega
    rw [hs, BitVec.toInt_eq_toNat_cond, hn, if_neg (by omega)]
    have : ((2 ^ N : Nat) : Int) = 2 ^ N := by simp
    omega
end Ip
end Go.Proofs.Ytilphdfobflbiaa
