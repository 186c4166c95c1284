/-
  The number that the document finds in a word is the program's. No program in sight.
  Encode and Decode, one behind the other, as the laws meet them.
  Contract of the document's Decode; the walk of InstDecodes: it answers true of any word.
  The walk of InstDecodes: it answers true of any word.
-/

import Derived.Test.YtcffpmicencfpabGreatZd
import Derived.Test.YtcffpmicencfpabGreatZu
import Derived.Test.YtcffpmicencfpabGreatZv
namespace Go.Proofs.YtcffpmicencfpabGreat
open Go.RowKit Ip

/-- One bit of a word, as a number. -/
def bt (x : BitVec 32) (p : Nat) : Int := if x.getLsbD p = true then 1 else 0
theorem bt_nat (x : BitVec 32) (p : Nat) : bt x p = ((x.toNat / 2 ^ p % 2 : Nat) : Int) := by
  unfold bt; rw [bit_of]
  rcases Nat.mod_two_eq_zero_or_one (x.toNat / 2 ^ p) with h | h <;> simp [h]
theorem bt_in (x : BitVec 32) (p : Nat) : 0 ≤ bt x p ∧ bt x p ≤ 1 := by unfold bt; split <;> omega
theorem refN_skip (x : BitVec 32) (F j : Nat) (h : (plc F).getD j 0 < 0) : refN x F (j + 1) = refN x F j := by
  show (if _ then _ else _) = _
  rw [if_neg (by omega)]
theorem refN_plus (x : BitVec 32) (F j p : Nat) (h : (plc F).getD j 0 = (p : Int)) (hl : ¬ (j + 1 = pln F ∧ hSg F = true)) : refN x F (j + 1) = refN x F j + 2 ^ j * bt x p := by
  show (if _ then _ else _) = _
  rw [h, Int.toNat_natCast, if_neg hl]
  unfold bt
  cases x.getLsbD p
  · rw [if_neg (by simp)]; simp
  · rw [if_pos ⟨by omega, rfl⟩]; simp
theorem refN_last (x : BitVec 32) (F j p : Nat) (h : (plc F).getD j 0 = (p : Int)) (hl : j + 1 = pln F ∧ hSg F = true) : refN x F (j + 1) = refN x F j - 2 ^ j * bt x p := by
  show (if _ then _ else _) = _
  rw [h, Int.toNat_natCast, if_pos hl]
  unfold bt
  cases x.getLsbD p
  · rw [if_neg (by simp)]; simp
  · rw [if_pos ⟨by omega, rfl⟩]; simp; omega
theorem run_int (x : BitVec 32) (a : Nat) : ∀ n, ((x.toNat / 2 ^ a % 2 ^ (n + 1) : Nat) : Int) = ((x.toNat / 2 ^ a % 2 ^ n : Nat) : Int) + 2 ^ n * bt x (a + n) := fun n => by
  rw [run_bits, bt_nat, Int.natCast_add, Int.natCast_mul, Int.natCast_pow]; rfl
theorem refN_U (x : BitVec 32) : refN x 85 20 = number x 85 := by
  have r0 := refN_plus x 85 0 12 rfl (by decide)
  have r1 := refN_plus x 85 1 13 rfl (by decide)
  have r2 := refN_plus x 85 2 14 rfl (by decide)
  have r3 := refN_plus x 85 3 15 rfl (by decide)
  have r4 := refN_plus x 85 4 16 rfl (by decide)
  have r5 := refN_plus x 85 5 17 rfl (by decide)
  have r6 := refN_plus x 85 6 18 rfl (by decide)
  have r7 := refN_plus x 85 7 19 rfl (by decide)
  have r8 := refN_plus x 85 8 20 rfl (by decide)
  have r9 := refN_plus x 85 9 21 rfl (by decide)
  have r10 := refN_plus x 85 10 22 rfl (by decide)
  have r11 := refN_plus x 85 11 23 rfl (by decide)
  have r12 := refN_plus x 85 12 24 rfl (by decide)
  have r13 := refN_plus x 85 13 25 rfl (by decide)
  have r14 := refN_plus x 85 14 26 rfl (by decide)
  have r15 := refN_plus x 85 15 27 rfl (by decide)
  have r16 := refN_plus x 85 16 28 rfl (by decide)
  have r17 := refN_plus x 85 17 29 rfl (by decide)
  have r18 := refN_plus x 85 18 30 rfl (by decide)
  have r19 := refN_plus x 85 19 31 rfl (by decide)
  have r : refN x 85 0 = 0 := rfl
  have s0_0 := run_int x 12 0
  have s0_1 := run_int x 12 1
  have s0_2 := run_int x 12 2
  have s0_3 := run_int x 12 3
  have s0_4 := run_int x 12 4
  have s0_5 := run_int x 12 5
  have s0_6 := run_int x 12 6
  have s0_7 := run_int x 12 7
  have s0_8 := run_int x 12 8
  have s0_9 := run_int x 12 9
  have s0_10 := run_int x 12 10
  have s0_11 := run_int x 12 11
  have s0_12 := run_int x 12 12
  have s0_13 := run_int x 12 13
  have s0_14 := run_int x 12 14
  have s0_15 := run_int x 12 15
  have s0_16 := run_int x 12 16
  have s0_17 := run_int x 12 17
  have s0_18 := run_int x 12 18
  have s0_19 := run_int x 12 19
  have t0 : ((x.toNat / 2 ^ 12 % 2 ^ 0 : Nat) : Int) = 0 := by rw [Nat.pow_zero, Nat.mod_one]; rfl
  simp only [Nat.zero_add, Nat.reduceAdd] at *
  have b12 := bt_in x 12
  have b13 := bt_in x 13
  have b14 := bt_in x 14
  have b15 := bt_in x 15
  have b16 := bt_in x 16
  have b17 := bt_in x 17
  have b18 := bt_in x 18
  have b19 := bt_in x 19
  have b20 := bt_in x 20
  have b21 := bt_in x 21
  have b22 := bt_in x 22
  have b23 := bt_in x 23
  have b24 := bt_in x 24
  have b25 := bt_in x 25
  have b26 := bt_in x 26
  have b27 := bt_in x 27
  have b28 := bt_in x 28
  have b29 := bt_in x 29
  have b30 := bt_in x 30
  have b31 := bt_in x 31
  rw [number_U]
  unfold val_U
  generalize bt x 12 = z12 at *
  generalize bt x 13 = z13 at *
  generalize bt x 14 = z14 at *
  generalize bt x 15 = z15 at *
  generalize bt x 16 = z16 at *
  generalize bt x 17 = z17 at *
  generalize bt x 18 = z18 at *
  generalize bt x 19 = z19 at *
  generalize bt x 20 = z20 at *
  generalize bt x 21 = z21 at *
  generalize bt x 22 = z22 at *
  generalize bt x 23 = z23 at *
  generalize bt x 24 = z24 at *
  generalize bt x 25 = z25 at *
  generalize bt x 26 = z26 at *
  generalize bt x 27 = z27 at *
  generalize bt x 28 = z28 at *
  generalize bt x 29 = z29 at *
  generalize bt x 30 = z30 at *
  generalize bt x 31 = z31 at *
  generalize refN x 85 0 = y0 at *
  generalize refN x 85 1 = y1 at *
  generalize refN x 85 2 = y2 at *
  generalize refN x 85 3 = y3 at *
  generalize refN x 85 4 = y4 at *
  generalize refN x 85 5 = y5 at *
  generalize refN x 85 6 = y6 at *
  generalize refN x 85 7 = y7 at *
  generalize refN x 85 8 = y8 at *
  generalize refN x 85 9 = y9 at *
  generalize refN x 85 10 = y10 at *
  generalize refN x 85 11 = y11 at *
  generalize refN x 85 12 = y12 at *
  generalize refN x 85 13 = y13 at *
  generalize refN x 85 14 = y14 at *
  generalize refN x 85 15 = y15 at *
  generalize refN x 85 16 = y16 at *
  generalize refN x 85 17 = y17 at *
  generalize refN x 85 18 = y18 at *
  generalize refN x 85 19 = y19 at *
  generalize refN x 85 20 = y20 at *
  generalize x.toNat / 2 ^ 12 % 2 ^ 0 = m0_0 at *
  generalize x.toNat / 2 ^ 12 % 2 ^ 1 = m0_1 at *
  generalize x.toNat / 2 ^ 12 % 2 ^ 2 = m0_2 at *
  generalize x.toNat / 2 ^ 12 % 2 ^ 3 = m0_3 at *
  generalize x.toNat / 2 ^ 12 % 2 ^ 4 = m0_4 at *
  generalize x.toNat / 2 ^ 12 % 2 ^ 5 = m0_5 at *
  generalize x.toNat / 2 ^ 12 % 2 ^ 6 = m0_6 at *
  generalize x.toNat / 2 ^ 12 % 2 ^ 7 = m0_7 at *
  generalize x.toNat / 2 ^ 12 % 2 ^ 8 = m0_8 at *
  generalize x.toNat / 2 ^ 12 % 2 ^ 9 = m0_9 at *
  generalize x.toNat / 2 ^ 12 % 2 ^ 10 = m0_10 at *
  generalize x.toNat / 2 ^ 12 % 2 ^ 11 = m0_11 at *
  generalize x.toNat / 2 ^ 12 % 2 ^ 12 = m0_12 at *
  generalize x.toNat / 2 ^ 12 % 2 ^ 13 = m0_13 at *
  generalize x.toNat / 2 ^ 12 % 2 ^ 14 = m0_14 at *
  generalize x.toNat / 2 ^ 12 % 2 ^ 15 = m0_15 at *
  generalize x.toNat / 2 ^ 12 % 2 ^ 16 = m0_16 at *
  generalize x.toNat / 2 ^ 12 % 2 ^ 17 = m0_17 at *
  generalize x.toNat / 2 ^ 12 % 2 ^ 18 = m0_18 at *
  generalize x.toNat / 2 ^ 12 % 2 ^ 19 = m0_19 at *
  generalize x.toNat / 2 ^ 12 % 2 ^ 20 = m0_20 at *
  omega
theorem refN_J (x : BitVec 32) : refN x 74 21 = number x 74 := by
  have r0 := refN_skip x 74 0 (by decide)
  have r1 := refN_plus x 74 1 21 rfl (by decide)
  have r2 := refN_plus x 74 2 22 rfl (by decide)
  have r3 := refN_plus x 74 3 23 rfl (by decide)
  have r4 := refN_plus x 74 4 24 rfl (by decide)
  have r5 := refN_plus x 74 5 25 rfl (by decide)
  have r6 := refN_plus x 74 6 26 rfl (by decide)
  have r7 := refN_plus x 74 7 27 rfl (by decide)
  have r8 := refN_plus x 74 8 28 rfl (by decide)
  have r9 := refN_plus x 74 9 29 rfl (by decide)
  have r10 := refN_plus x 74 10 30 rfl (by decide)
  have r11 := refN_plus x 74 11 20 rfl (by decide)
  have r12 := refN_plus x 74 12 12 rfl (by decide)
  have r13 := refN_plus x 74 13 13 rfl (by decide)
  have r14 := refN_plus x 74 14 14 rfl (by decide)
  have r15 := refN_plus x 74 15 15 rfl (by decide)
  have r16 := refN_plus x 74 16 16 rfl (by decide)
  have r17 := refN_plus x 74 17 17 rfl (by decide)
  have r18 := refN_plus x 74 18 18 rfl (by decide)
  have r19 := refN_plus x 74 19 19 rfl (by decide)
  have r20 := refN_last x 74 20 31 rfl (by decide)
  have r : refN x 74 0 = 0 := rfl
  have s0_0 := run_int x 31 0
  have t0 : ((x.toNat / 2 ^ 31 % 2 ^ 0 : Nat) : Int) = 0 := by rw [Nat.pow_zero, Nat.mod_one]; rfl
  have s1_0 := run_int x 12 0
  have s1_1 := run_int x 12 1
  have s1_2 := run_int x 12 2
  have s1_3 := run_int x 12 3
  have s1_4 := run_int x 12 4
  have s1_5 := run_int x 12 5
  have s1_6 := run_int x 12 6
  have s1_7 := run_int x 12 7
  have t1 : ((x.toNat / 2 ^ 12 % 2 ^ 0 : Nat) : Int) = 0 := by rw [Nat.pow_zero, Nat.mod_one]; rfl
  have s2_0 := run_int x 20 0
  have t2 : ((x.toNat / 2 ^ 20 % 2 ^ 0 : Nat) : Int) = 0 := by rw [Nat.pow_zero, Nat.mod_one]; rfl
  have s3_0 := run_int x 21 0
  have s3_1 := run_int x 21 1
  have s3_2 := run_int x 21 2
  have s3_3 := run_int x 21 3
  have s3_4 := run_int x 21 4
  have s3_5 := run_int x 21 5
  have s3_6 := run_int x 21 6
  have s3_7 := run_int x 21 7
  have s3_8 := run_int x 21 8
  have s3_9 := run_int x 21 9
  have t3 : ((x.toNat / 2 ^ 21 % 2 ^ 0 : Nat) : Int) = 0 := by rw [Nat.pow_zero, Nat.mod_one]; rfl
  simp only [Nat.zero_add, Nat.reduceAdd] at *
  have b12 := bt_in x 12
  have b13 := bt_in x 13
  have b14 := bt_in x 14
  have b15 := bt_in x 15
  have b16 := bt_in x 16
  have b17 := bt_in x 17
  have b18 := bt_in x 18
  have b19 := bt_in x 19
  have b20 := bt_in x 20
  have b21 := bt_in x 21
  have b22 := bt_in x 22
  have b23 := bt_in x 23
  have b24 := bt_in x 24
  have b25 := bt_in x 25
  have b26 := bt_in x 26
  have b27 := bt_in x 27
  have b28 := bt_in x 28
  have b29 := bt_in x 29
  have b30 := bt_in x 30
  have b31 := bt_in x 31
  rw [number_J]
  unfold val_J
  generalize bt x 12 = z12 at *
  generalize bt x 13 = z13 at *
  generalize bt x 14 = z14 at *
  generalize bt x 15 = z15 at *
  generalize bt x 16 = z16 at *
  generalize bt x 17 = z17 at *
  generalize bt x 18 = z18 at *
  generalize bt x 19 = z19 at *
  generalize bt x 20 = z20 at *
  generalize bt x 21 = z21 at *
  generalize bt x 22 = z22 at *
  generalize bt x 23 = z23 at *
  generalize bt x 24 = z24 at *
  generalize bt x 25 = z25 at *
  generalize bt x 26 = z26 at *
  generalize bt x 27 = z27 at *
  generalize bt x 28 = z28 at *
  generalize bt x 29 = z29 at *
  generalize bt x 30 = z30 at *
  generalize bt x 31 = z31 at *
  generalize refN x 74 0 = y0 at *
  generalize refN x 74 1 = y1 at *
  generalize refN x 74 2 = y2 at *
  generalize refN x 74 3 = y3 at *
  generalize refN x 74 4 = y4 at *
  generalize refN x 74 5 = y5 at *
  generalize refN x 74 6 = y6 at *
  generalize refN x 74 7 = y7 at *
  generalize refN x 74 8 = y8 at *
  generalize refN x 74 9 = y9 at *
  generalize refN x 74 10 = y10 at *
  generalize refN x 74 11 = y11 at *
  generalize refN x 74 12 = y12 at *
  generalize refN x 74 13 = y13 at *
  generalize refN x 74 14 = y14 at *
  generalize refN x 74 15 = y15 at *
  generalize refN x 74 16 = y16 at *
  generalize refN x 74 17 = y17 at *
  generalize refN x 74 18 = y18 at *
  generalize refN x 74 19 = y19 at *
  generalize refN x 74 20 = y20 at *
  generalize refN x 74 21 = y21 at *
  generalize x.toNat / 2 ^ 31 % 2 ^ 0 = m0_0 at *
  generalize x.toNat / 2 ^ 31 % 2 ^ 1 = m0_1 at *
  generalize x.toNat / 2 ^ 12 % 2 ^ 0 = m1_0 at *
  generalize x.toNat / 2 ^ 12 % 2 ^ 1 = m1_1 at *
  generalize x.toNat / 2 ^ 12 % 2 ^ 2 = m1_2 at *
  generalize x.toNat / 2 ^ 12 % 2 ^ 3 = m1_3 at *
  generalize x.toNat / 2 ^ 12 % 2 ^ 4 = m1_4 at *
  generalize x.toNat / 2 ^ 12 % 2 ^ 5 = m1_5 at *
  generalize x.toNat / 2 ^ 12 % 2 ^ 6 = m1_6 at *
  generalize x.toNat / 2 ^ 12 % 2 ^ 7 = m1_7 at *
  generalize x.toNat / 2 ^ 12 % 2 ^ 8 = m1_8 at *
  generalize x.toNat / 2 ^ 20 % 2 ^ 0 = m2_0 at *
  generalize x.toNat / 2 ^ 20 % 2 ^ 1 = m2_1 at *
  generalize x.toNat / 2 ^ 21 % 2 ^ 0 = m3_0 at *
  generalize x.toNat / 2 ^ 21 % 2 ^ 1 = m3_1 at *
  generalize x.toNat / 2 ^ 21 % 2 ^ 2 = m3_2 at *
  generalize x.toNat / 2 ^ 21 % 2 ^ 3 = m3_3 at *
  generalize x.toNat / 2 ^ 21 % 2 ^ 4 = m3_4 at *
  generalize x.toNat / 2 ^ 21 % 2 ^ 5 = m3_5 at *
  generalize x.toNat / 2 ^ 21 % 2 ^ 6 = m3_6 at *
  generalize x.toNat / 2 ^ 21 % 2 ^ 7 = m3_7 at *
  generalize x.toNat / 2 ^ 21 % 2 ^ 8 = m3_8 at *
  generalize x.toNat / 2 ^ 21 % 2 ^ 9 = m3_9 at *
  generalize x.toNat / 2 ^ 21 % 2 ^ 10 = m3_10 at *
  split <;> omega
theorem refN_I (x : BitVec 32) : refN x 73 12 = number x 73 := by
  have r0 := refN_plus x 73 0 20 rfl (by decide)
  have r1 := refN_plus x 73 1 21 rfl (by decide)
  have r2 := refN_plus x 73 2 22 rfl (by decide)
  have r3 := refN_plus x 73 3 23 rfl (by decide)
  have r4 := refN_plus x 73 4 24 rfl (by decide)
  have r5 := refN_plus x 73 5 25 rfl (by decide)
  have r6 := refN_plus x 73 6 26 rfl (by decide)
  have r7 := refN_plus x 73 7 27 rfl (by decide)
  have r8 := refN_plus x 73 8 28 rfl (by decide)
  have r9 := refN_plus x 73 9 29 rfl (by decide)
  have r10 := refN_plus x 73 10 30 rfl (by decide)
  have r11 := refN_last x 73 11 31 rfl (by decide)
  have r : refN x 73 0 = 0 := rfl
  have s0_0 := run_int x 20 0
  have s0_1 := run_int x 20 1
  have s0_2 := run_int x 20 2
  have s0_3 := run_int x 20 3
  have s0_4 := run_int x 20 4
  have s0_5 := run_int x 20 5
  have s0_6 := run_int x 20 6
  have s0_7 := run_int x 20 7
  have s0_8 := run_int x 20 8
  have s0_9 := run_int x 20 9
  have s0_10 := run_int x 20 10
  have s0_11 := run_int x 20 11
  have t0 : ((x.toNat / 2 ^ 20 % 2 ^ 0 : Nat) : Int) = 0 := by rw [Nat.pow_zero, Nat.mod_one]; rfl
  simp only [Nat.zero_add, Nat.reduceAdd] at *
  have b20 := bt_in x 20
  have b21 := bt_in x 21
  have b22 := bt_in x 22
  have b23 := bt_in x 23
  have b24 := bt_in x 24
  have b25 := bt_in x 25
  have b26 := bt_in x 26
  have b27 := bt_in x 27
  have b28 := bt_in x 28
  have b29 := bt_in x 29
  have b30 := bt_in x 30
  have b31 := bt_in x 31
  rw [number_I]
  unfold val_I
  generalize bt x 20 = z20 at *
  generalize bt x 21 = z21 at *
  generalize bt x 22 = z22 at *
  generalize bt x 23 = z23 at *
  generalize bt x 24 = z24 at *
  generalize bt x 25 = z25 at *
  generalize bt x 26 = z26 at *
  generalize bt x 27 = z27 at *
  generalize bt x 28 = z28 at *
  generalize bt x 29 = z29 at *
  generalize bt x 30 = z30 at *
  generalize bt x 31 = z31 at *
  generalize refN x 73 0 = y0 at *
  generalize refN x 73 1 = y1 at *
  generalize refN x 73 2 = y2 at *
  generalize refN x 73 3 = y3 at *
  generalize refN x 73 4 = y4 at *
  generalize refN x 73 5 = y5 at *
  generalize refN x 73 6 = y6 at *
  generalize refN x 73 7 = y7 at *
  generalize refN x 73 8 = y8 at *
  generalize refN x 73 9 = y9 at *
  generalize refN x 73 10 = y10 at *
  generalize refN x 73 11 = y11 at *
  generalize refN x 73 12 = y12 at *
  generalize x.toNat / 2 ^ 20 % 2 ^ 0 = m0_0 at *
  generalize x.toNat / 2 ^ 20 % 2 ^ 1 = m0_1 at *
  generalize x.toNat / 2 ^ 20 % 2 ^ 2 = m0_2 at *
  generalize x.toNat / 2 ^ 20 % 2 ^ 3 = m0_3 at *
  generalize x.toNat / 2 ^ 20 % 2 ^ 4 = m0_4 at *
  generalize x.toNat / 2 ^ 20 % 2 ^ 5 = m0_5 at *
  generalize x.toNat / 2 ^ 20 % 2 ^ 6 = m0_6 at *
  generalize x.toNat / 2 ^ 20 % 2 ^ 7 = m0_7 at *
  generalize x.toNat / 2 ^ 20 % 2 ^ 8 = m0_8 at *
  generalize x.toNat / 2 ^ 20 % 2 ^ 9 = m0_9 at *
  generalize x.toNat / 2 ^ 20 % 2 ^ 10 = m0_10 at *
  generalize x.toNat / 2 ^ 20 % 2 ^ 11 = m0_11 at *
  generalize x.toNat / 2 ^ 20 % 2 ^ 12 = m0_12 at *
  split <;> omega
theorem refN_H (x : BitVec 32) : refN x 72 5 = number x 72 := by
  have r0 := refN_plus x 72 0 20 rfl (by decide)
  have r1 := refN_plus x 72 1 21 rfl (by decide)
  have r2 := refN_plus x 72 2 22 rfl (by decide)
  have r3 := refN_plus x 72 3 23 rfl (by decide)
  have r4 := refN_plus x 72 4 24 rfl (by decide)
  have r : refN x 72 0 = 0 := rfl
  have s0_0 := run_int x 20 0
  have s0_1 := run_int x 20 1
  have s0_2 := run_int x 20 2
  have s0_3 := run_int x 20 3
  have s0_4 := run_int x 20 4
  have t0 : ((x.toNat / 2 ^ 20 % 2 ^ 0 : Nat) : Int) = 0 := by rw [Nat.pow_zero, Nat.mod_one]; rfl
  simp only [Nat.zero_add, Nat.reduceAdd] at *
  have b20 := bt_in x 20
  have b21 := bt_in x 21
  have b22 := bt_in x 22
  have b23 := bt_in x 23
  have b24 := bt_in x 24
  rw [number_H]
  unfold val_H
  generalize bt x 20 = z20 at *
  generalize bt x 21 = z21 at *
  generalize bt x 22 = z22 at *
  generalize bt x 23 = z23 at *
  generalize bt x 24 = z24 at *
  generalize refN x 72 0 = y0 at *
  generalize refN x 72 1 = y1 at *
  generalize refN x 72 2 = y2 at *
  generalize refN x 72 3 = y3 at *
  generalize refN x 72 4 = y4 at *
  generalize refN x 72 5 = y5 at *
  generalize x.toNat / 2 ^ 20 % 2 ^ 0 = m0_0 at *
  generalize x.toNat / 2 ^ 20 % 2 ^ 1 = m0_1 at *
  generalize x.toNat / 2 ^ 20 % 2 ^ 2 = m0_2 at *
  generalize x.toNat / 2 ^ 20 % 2 ^ 3 = m0_3 at *
  generalize x.toNat / 2 ^ 20 % 2 ^ 4 = m0_4 at *
  generalize x.toNat / 2 ^ 20 % 2 ^ 5 = m0_5 at *
  omega
theorem refN_B (x : BitVec 32) : refN x 66 13 = number x 66 := by
  have r0 := refN_skip x 66 0 (by decide)
  have r1 := refN_plus x 66 1 8 rfl (by decide)
  have r2 := refN_plus x 66 2 9 rfl (by decide)
  have r3 := refN_plus x 66 3 10 rfl (by decide)
  have r4 := refN_plus x 66 4 11 rfl (by decide)
  have r5 := refN_plus x 66 5 25 rfl (by decide)
  have r6 := refN_plus x 66 6 26 rfl (by decide)
  have r7 := refN_plus x 66 7 27 rfl (by decide)
  have r8 := refN_plus x 66 8 28 rfl (by decide)
  have r9 := refN_plus x 66 9 29 rfl (by decide)
  have r10 := refN_plus x 66 10 30 rfl (by decide)
  have r11 := refN_plus x 66 11 7 rfl (by decide)
  have r12 := refN_last x 66 12 31 rfl (by decide)
  have r : refN x 66 0 = 0 := rfl
  have s0_0 := run_int x 31 0
  have t0 : ((x.toNat / 2 ^ 31 % 2 ^ 0 : Nat) : Int) = 0 := by rw [Nat.pow_zero, Nat.mod_one]; rfl
  have s1_0 := run_int x 7 0
  have t1 : ((x.toNat / 2 ^ 7 % 2 ^ 0 : Nat) : Int) = 0 := by rw [Nat.pow_zero, Nat.mod_one]; rfl
  have s2_0 := run_int x 25 0
  have s2_1 := run_int x 25 1
  have s2_2 := run_int x 25 2
  have s2_3 := run_int x 25 3
  have s2_4 := run_int x 25 4
  have s2_5 := run_int x 25 5
  have t2 : ((x.toNat / 2 ^ 25 % 2 ^ 0 : Nat) : Int) = 0 := by rw [Nat.pow_zero, Nat.mod_one]; rfl
  have s3_0 := run_int x 8 0
  have s3_1 := run_int x 8 1
  have s3_2 := run_int x 8 2
  have s3_3 := run_int x 8 3
  have t3 : ((x.toNat / 2 ^ 8 % 2 ^ 0 : Nat) : Int) = 0 := by rw [Nat.pow_zero, Nat.mod_one]; rfl
  simp only [Nat.zero_add, Nat.reduceAdd] at *
  have b7 := bt_in x 7
  have b8 := bt_in x 8
  have b9 := bt_in x 9
  have b10 := bt_in x 10
  have b11 := bt_in x 11
  have b25 := bt_in x 25
  have b26 := bt_in x 26
  have b27 := bt_in x 27
  have b28 := bt_in x 28
  have b29 := bt_in x 29
  have b30 := bt_in x 30
  have b31 := bt_in x 31
  rw [number_B]
  unfold val_B
  generalize bt x 7 = z7 at *
  generalize bt x 8 = z8 at *
  generalize bt x 9 = z9 at *
  generalize bt x 10 = z10 at *
  generalize bt x 11 = z11 at *
  generalize bt x 25 = z25 at *
  generalize bt x 26 = z26 at *
  generalize bt x 27 = z27 at *
  generalize bt x 28 = z28 at *
  generalize bt x 29 = z29 at *
  generalize bt x 30 = z30 at *
  generalize bt x 31 = z31 at *
  generalize refN x 66 0 = y0 at *
  generalize refN x 66 1 = y1 at *
  generalize refN x 66 2 = y2 at *
  generalize refN x 66 3 = y3 at *
  generalize refN x 66 4 = y4 at *
  generalize refN x 66 5 = y5 at *
  generalize refN x 66 6 = y6 at *
  generalize refN x 66 7 = y7 at *
  generalize refN x 66 8 = y8 at *
  generalize refN x 66 9 = y9 at *
  generalize refN x 66 10 = y10 at *
  generalize refN x 66 11 = y11 at *
  generalize refN x 66 12 = y12 at *
  generalize refN x 66 13 = y13 at *
  generalize x.toNat / 2 ^ 31 % 2 ^ 0 = m0_0 at *
  generalize x.toNat / 2 ^ 31 % 2 ^ 1 = m0_1 at *
  generalize x.toNat / 2 ^ 7 % 2 ^ 0 = m1_0 at *
  generalize x.toNat / 2 ^ 7 % 2 ^ 1 = m1_1 at *
  generalize x.toNat / 2 ^ 25 % 2 ^ 0 = m2_0 at *
  generalize x.toNat / 2 ^ 25 % 2 ^ 1 = m2_1 at *
  generalize x.toNat / 2 ^ 25 % 2 ^ 2 = m2_2 at *
  generalize x.toNat / 2 ^ 25 % 2 ^ 3 = m2_3 at *
  generalize x.toNat / 2 ^ 25 % 2 ^ 4 = m2_4 at *
  generalize x.toNat / 2 ^ 25 % 2 ^ 5 = m2_5 at *
  generalize x.toNat / 2 ^ 25 % 2 ^ 6 = m2_6 at *
  generalize x.toNat / 2 ^ 8 % 2 ^ 0 = m3_0 at *
  generalize x.toNat / 2 ^ 8 % 2 ^ 1 = m3_1 at *
  generalize x.toNat / 2 ^ 8 % 2 ^ 2 = m3_2 at *
  generalize x.toNat / 2 ^ 8 % 2 ^ 3 = m3_3 at *
  generalize x.toNat / 2 ^ 8 % 2 ^ 4 = m3_4 at *
  split <;> omega
theorem refN_S (x : BitVec 32) : refN x 83 12 = number x 83 := by
  have r0 := refN_plus x 83 0 7 rfl (by decide)
  have r1 := refN_plus x 83 1 8 rfl (by decide)
  have r2 := refN_plus x 83 2 9 rfl (by decide)
  have r3 := refN_plus x 83 3 10 rfl (by decide)
  have r4 := refN_plus x 83 4 11 rfl (by decide)
  have r5 := refN_plus x 83 5 25 rfl (by decide)
  have r6 := refN_plus x 83 6 26 rfl (by decide)
  have r7 := refN_plus x 83 7 27 rfl (by decide)
  have r8 := refN_plus x 83 8 28 rfl (by decide)
  have r9 := refN_plus x 83 9 29 rfl (by decide)
  have r10 := refN_plus x 83 10 30 rfl (by decide)
  have r11 := refN_last x 83 11 31 rfl (by decide)
  have r : refN x 83 0 = 0 := rfl
  have s0_0 := run_int x 7 0
  have s0_1 := run_int x 7 1
  have s0_2 := run_int x 7 2
  have s0_3 := run_int x 7 3
  have s0_4 := run_int x 7 4
  have t0 : ((x.toNat / 2 ^ 7 % 2 ^ 0 : Nat) : Int) = 0 := by rw [Nat.pow_zero, Nat.mod_one]; rfl
  have s1_0 := run_int x 25 0
  have s1_1 := run_int x 25 1
  have s1_2 := run_int x 25 2
  have s1_3 := run_int x 25 3
  have s1_4 := run_int x 25 4
  have s1_5 := run_int x 25 5
  have s1_6 := run_int x 25 6
  have t1 : ((x.toNat / 2 ^ 25 % 2 ^ 0 : Nat) : Int) = 0 := by rw [Nat.pow_zero, Nat.mod_one]; rfl
  simp only [Nat.zero_add, Nat.reduceAdd] at *
  have b7 := bt_in x 7
  have b8 := bt_in x 8
  have b9 := bt_in x 9
  have b10 := bt_in x 10
  have b11 := bt_in x 11
  have b25 := bt_in x 25
  have b26 := bt_in x 26
  have b27 := bt_in x 27
  have b28 := bt_in x 28
  have b29 := bt_in x 29
  have b30 := bt_in x 30
  have b31 := bt_in x 31
  rw [number_S]
  unfold val_S
  generalize bt x 7 = z7 at *
  generalize bt x 8 = z8 at *
  generalize bt x 9 = z9 at *
  generalize bt x 10 = z10 at *
  generalize bt x 11 = z11 at *
  generalize bt x 25 = z25 at *
  generalize bt x 26 = z26 at *
  generalize bt x 27 = z27 at *
  generalize bt x 28 = z28 at *
  generalize bt x 29 = z29 at *
  generalize bt x 30 = z30 at *
  generalize bt x 31 = z31 at *
  generalize refN x 83 0 = y0 at *
  generalize refN x 83 1 = y1 at *
  generalize refN x 83 2 = y2 at *
  generalize refN x 83 3 = y3 at *
  generalize refN x 83 4 = y4 at *
  generalize refN x 83 5 = y5 at *
  generalize refN x 83 6 = y6 at *
  generalize refN x 83 7 = y7 at *
  generalize refN x 83 8 = y8 at *
  generalize refN x 83 9 = y9 at *
  generalize refN x 83 10 = y10 at *
  generalize refN x 83 11 = y11 at *
  generalize refN x 83 12 = y12 at *
  generalize x.toNat / 2 ^ 7 % 2 ^ 0 = m0_0 at *
  generalize x.toNat / 2 ^ 7 % 2 ^ 1 = m0_1 at *
  generalize x.toNat / 2 ^ 7 % 2 ^ 2 = m0_2 at *
  generalize x.toNat / 2 ^ 7 % 2 ^ 3 = m0_3 at *
  generalize x.toNat / 2 ^ 7 % 2 ^ 4 = m0_4 at *
  generalize x.toNat / 2 ^ 7 % 2 ^ 5 = m0_5 at *
  generalize x.toNat / 2 ^ 25 % 2 ^ 0 = m1_0 at *
  generalize x.toNat / 2 ^ 25 % 2 ^ 1 = m1_1 at *
  generalize x.toNat / 2 ^ 25 % 2 ^ 2 = m1_2 at *
  generalize x.toNat / 2 ^ 25 % 2 ^ 3 = m1_3 at *
  generalize x.toNat / 2 ^ 25 % 2 ^ 4 = m1_4 at *
  generalize x.toNat / 2 ^ 25 % 2 ^ 5 = m1_5 at *
  generalize x.toNat / 2 ^ 25 % 2 ^ 6 = m1_6 at *
  generalize x.toNat / 2 ^ 25 % 2 ^ 7 = m1_7 at *
  split <;> omega
end Go.Proofs.YtcffpmicencfpabGreat
namespace Go.Proofs.YtcffpmicencfpabGreat
open Go.RowKit Ip

/-- What is encoded is decoded as it was. -/
theorem dec_enc (op rd rs1 rs2 imm : Int) (h : right op rd rs1 rs2 imm = true) (w : World) :
    Calls Tryz.prog 46 #[.int .u32 ((enc op rd rs1 rs2 imm).toNat : Int)] w fun e w' => e = .returned (.tuple #[.agg #[.int .i64 op, .int .i64 rd, .int .i64 rs1, .int .i64 rs2, .int .i64 imm], .int .i64 0]) ∧ Below w.heap.size w w' := by
  have hne : frm op ≠ 0 := by intro c; unfold right at h; rw [c] at h; cases h
  obtain ⟨_, h0, h1⟩ := is8_frm op hne
  obtain ⟨k, rfl⟩ := Int.eq_ofNat_of_zero_le h0
  obtain ⟨a, e1, e2, e3, e4⟩ := there k (by omega) rd rs1 rs2 imm h
  have c := decode_kind _ k (by omega) a w
  rw [e1, e2, e3, e4] at c
  exact c
theorem enc_inj (op rd rs1 rs2 imm op' rd' rs1' rs2' imm' : Int) (h : right op rd rs1 rs2 imm = true) (h' : right op' rd' rs1' rs2' imm' = true) (e : enc op rd rs1 rs2 imm = enc op' rd' rs1' rs2' imm') : sameX op rd rs1 rs2 imm op' rd' rs1' rs2' imm' = true := by
  have hne : frm op ≠ 0 := by intro c; unfold right at h; rw [c] at h; cases h
  have hne' : frm op' ≠ 0 := by intro c; unfold right at h'; rw [c] at h'; cases h'
  obtain ⟨_, h0, h1⟩ := is8_frm op hne
  obtain ⟨_, h0', h1'⟩ := is8_frm op' hne'
  obtain ⟨k, rfl⟩ := Int.eq_ofNat_of_zero_le h0
  obtain ⟨k', rfl⟩ := Int.eq_ofNat_of_zero_le h0'
  obtain ⟨a, e1, e2, e3, e4⟩ := there k (by omega) rd rs1 rs2 imm h
  obtain ⟨a', e1', e2', e3', e4'⟩ := there k' (by omega) rd' rs1' rs2' imm' h'
  rw [e] at a e1 e2 e3 e4
  have ek := asked_one _ k k' (by omega) (by omega) a a'
  subst ek
  exact decide_eq_true ⟨rfl, e1.symm.trans e1', e2.symm.trans e2', e3.symm.trans e3', e4.symm.trans e4'⟩
theorem enc_ne (op rd rs1 rs2 imm op' rd' rs1' rs2' imm' : Int) (h : right op rd rs1 rs2 imm = true) (h' : right op' rd' rs1' rs2' imm' = true) (e : sameX op rd rs1 rs2 imm op' rd' rs1' rs2' imm' = false) : (((enc op rd rs1 rs2 imm).toNat : Int) == ((enc op' rd' rs1' rs2' imm').toNat : Int)) = false := by
  rw [beq_eq_false_iff_ne]
  intro c
  have := enc_inj _ _ _ _ _ _ _ _ _ _ h h' (BitVec.eq_of_toNat_eq (Int.natCast_inj.1 c))
  rw [e] at this; cases this
theorem sameX_self (a b c d e : Int) : sameX a b c d e a b c d e = true := decide_eq_true ⟨rfl, rfl, rfl, rfl, rfl⟩
theorem sameX_eq {a b c d e a' b' c' d' e' : Int} (h : sameX a b c d e a' b' c' d' e' = true) : a = a' ∧ b = b' ∧ c = c' ∧ d = d' ∧ e = e' := of_decide_eq_true h
theorem enc_to (x : BitVec 32) (k : Nat) (hk : k < 47) (h : asked x k = true) (F : Nat) (a b c n : Int) (hF : F = kf k) (ha : a = regIf (hRd F) x 7) (hb : b = regIf (hRs1 F) x 15) (hc : c = regIf (hRs2 F) x 20) (hn : n = number x F) :
    right (k : Int) a b c n = true ∧ enc (k : Int) a b c n = x := by
  subst ha hb hc hn hF; exact again k hk x h
theorem dec_to (x : BitVec 32) (k : Nat) (hk : k < 47) (h : asked x k = true) (F : Nat) (a b c n : Int) (hF : F = kf k) (ha : a = regIf (hRd F) x 7) (hb : b = regIf (hRs1 F) x 15) (hc : c = regIf (hRs2 F) x 20) (hn : n = number x F) (w : World) :
    Calls Tryz.prog 46 #[.int .u32 (x.toNat : Int)] w fun e w' => e = .returned (.tuple #[.agg #[.int .i64 (k : Int), .int .i64 a, .int .i64 b, .int .i64 c, .int .i64 n], .int .i64 0]) ∧ Below w.heap.size w w' := by
  subst ha hb hc hn hF; exact decode_kind x k hk h w
/-- What Decode answers: nothing, or an instruction that may be and whose word it is. -/
theorem dec_cases (x : BitVec 32) :
    (∀ w : World, Calls Tryz.prog 46 #[.int .u32 (x.toNat : Int)] w fun e w' => e = .returned (.tuple #[.agg #[.int .i64 0, .int .i64 0, .int .i64 0, .int .i64 0, .int .i64 0], .int .i64 20]) ∧ Below w.heap.size w w') ∨
    ∃ op a b c n : Int, right op a b c n = true ∧ enc op a b c n = x ∧ ∀ w : World, Calls Tryz.prog 46 #[.int .u32 (x.toNat : Int)] w fun e w' => e = .returned (.tuple #[.agg #[.int .i64 op, .int .i64 a, .int .i64 b, .int .i64 c, .int .i64 n], .int .i64 0]) ∧ Below w.heap.size w w' := by
  rcases kind_or x with ⟨k, hk, hx⟩ | hx
  · obtain ⟨hr, he⟩ := again k hk x hx
    exact .inr ⟨_, _, _, _, _, hr, he, fun w => decode_kind x k hk hx w⟩
  · exact .inl fun w => decode_none x hx w

end Go.Proofs.YtcffpmicencfpabGreat
namespace Go.Proofs.YtcffpmicencfpabGreat
open Go.RowKit Ip

theorem refN_all (x : BitVec 32) (f : Nat) (h : is8 f) : refN x f (pln f) = number x f := by
  rcases h with rfl | rfl | rfl | rfl | rfl | rfl | rfl | rfl
  · exact refN_U x
  · exact refN_J x
  · exact refN_I x
  · exact refN_H x
  · exact refN_B x
  · exact refN_S x
  · exact (num_none x 82 (by decide)).symm
  · exact (num_none x 69 (by decide)).symm
theorem rtry_to (k : Nat) (hk : k < 47) (x : BitVec 32) (a b c n : Int) (ha : a = regIf (hRd (kf k)) x 7) (hb : b = regIf (hRs1 (kf k)) x 15) (hc : c = regIf (hRs2 (kf k)) x 20) (hn : n = number x (kf k)) (w : World) :
    Calls Tryz.prog 36 #[.int .i64 (k : Int), .int .u32 (x.toNat : Int)] w fun e w' => e = .returned (.agg #[.int .i64 (k : Int), .int .i64 a, .int .i64 b, .int .i64 c, .int .i64 n]) ∧ Below w.heap.size w w' := by
  have h8 := is8_kf k hk
  rw [ha, hb, hc, hn, ← refN_all x (kf k) h8]
  exact rtry_core k hk x _ rfl _ _ _ _ (inB_Rd _ h8) (inB_Rs1 _ h8) (inB_Rs2 _ h8) (inB_Sg _ h8) rfl w
theorem renc_to (op rd rs1 rs2 imm : Int) (x : BitVec 32) (h : right op rd rs1 rs2 imm = true) (he : enc op rd rs1 rs2 imm = x) (w : World) : Calls Tryz.prog 37 #[.agg #[.int .i64 op, .int .i64 rd, .int .i64 rs1, .int .i64 rs2, .int .i64 imm]] w fun e w' => e = .returned (.tuple #[.int .u32 (x.toNat : Int), .int .i64 0]) ∧ Below w.heap.size w w' := by
  subst he; exact rencode_yes op rd rs1 rs2 imm h w

/-- A world in which the answer's box is still zero and may be written; all that was there is as it was. -/
structure HeldZ (w : World) (W : World) : Prop where
  z0 : W.cell? ⟨w.heap.size, 0, none⟩ = some (.int .i64 0)
  z1 : W.cell? ⟨w.heap.size, 1, none⟩ = some (.int .i64 0)
  z2 : W.cell? ⟨w.heap.size, 2, none⟩ = some (.int .i64 0)
  z3 : W.cell? ⟨w.heap.size, 3, none⟩ = some (.int .i64 0)
  z4 : W.cell? ⟨w.heap.size, 4, none⟩ = some (.int .i64 0)
  f0 : ∀ o, W.frozen? ⟨w.heap.size, o, none⟩ = false
  below : Below w.heap.size w W
  s0 : w.heap.size < W.heap.size
theorem HeldZ.later {w W w1 : World} (h : HeldZ w W) (hb : Below W.heap.size W w1) : HeldZ w w1 := by
  obtain ⟨hc, hf⟩ := bcell hb
  exact ⟨(hc _ _ h.s0).trans h.z0, (hc _ _ h.s0).trans h.z1, (hc _ _ h.s0).trans h.z2, (hc _ _ h.s0).trans h.z3, (hc _ _ h.s0).trans h.z4, fun o => (hf _ _ h.s0).trans (h.f0 o), h.below.trans (hb.mono (by have := h.s0; omega)), Nat.lt_of_lt_of_le h.s0 hb.size⟩
theorem HeldZ.alloc {w W : World} (h : HeldZ w W) (o : Obj) : HeldZ w (W.alloc o) := h.later ((Below.refl _ _).alloc (Nat.le_refl _) _)
theorem HeldZ.start (w : World) (t : TypeId) : HeldZ w (w.alloc (.cells #[.int .i64 0, .int .i64 0, .int .i64 0, .int .i64 0, .int .i64 0] t)) := by
  have hn : ∀ o, (w.alloc (.cells #[.int .i64 0, .int .i64 0, .int .i64 0, .int .i64 0, .int .i64 0] t)).cell? ⟨w.heap.size, o, none⟩ = (#[.int .i64 0, .int .i64 0, .int .i64 0, .int .i64 0, .int .i64 0] : Array Value)[o]? := fun o => by
    rw [World.cell?_alloc_at _ _ _ _ rfl]
  exact ⟨hn 0, hn 1, hn 2, hn 3, hn 4, fun o => by simp, (Below.refl _ _).alloc (Nat.le_refl _) _, by simp⟩

set_option maxHeartbeats 4000000 in
theorem rdecode_core (x : BitVec 32) (r : Nat) (hr : r ≤ 47) (hno : ∀ j, j < r → asked x j = false) (hyes : r < 47 → asked x r = true) (K A B C N E : Int)
    (hK : r < 47 → K = (r : Int) ∧ A = regIf (hRd (kf r)) x 7 ∧ B = regIf (hRs1 (kf r)) x 15 ∧ C = regIf (hRs2 (kf r)) x 20 ∧ N = number x (kf r) ∧ E = 0) (hZ : r = 47 → K = 0 ∧ A = 0 ∧ B = 0 ∧ C = 0 ∧ N = 0 ∧ E = 20) (w : World) :
    Calls Tryz.prog 22 #[.int .u32 (x.toNat : Int)] w fun e w' => e = .returned (.tuple #[.agg #[.int .i64 K, .int .i64 A, .int .i64 B, .int .i64 C, .int .i64 N], .int .i64 E]) ∧ Below w.heap.size w w' := by
  have HN : Hid (∀ j, j < r → asked x j = false) := hno
  have HY : Hid (r < 47 → asked x r = true) := hyes
  have HK : Hid (r < 47 → K = (r : Int) ∧ A = regIf (hRd (kf r)) x 7 ∧ B = regIf (hRs1 (kf r)) x 15 ∧ C = regIf (hRs2 (kf r)) x 20 ∧ N = number x (kf r) ∧ E = 0) := hK
  have HZ : Hid (r = 47 → K = 0 ∧ A = 0 ∧ B = 0 ∧ C = 0 ∧ N = 0 ∧ E = 20) := hZ
  have HST : Hid (HeldZ w (w.alloc (.cells #[.int .i64 0, .int .i64 0, .int .i64 0, .int .i64 0, .int .i64 0] 38))) := HeldZ.start w _
  clear hno hyes hK hZ
  go_enter Tryz.func22, Tryz.ntmps22
  go_wp2_with fail
  go_loopw [4] (fun i wr => ∃ j : Nat, j ≤ r ∧ i = .int .i64 (j : Int) ∧ HeldZ w wr) (fun i _ => (47 - intOf i).toNat)
  case atStart => exact ⟨0, Nat.zero_le _, rfl, HST.out⟩
  case round =>
    obtain ⟨j, hj, rfl, hw⟩ := hrel
    have HW : Hid (HeldZ w wr) := hw
    clear hw HST
    by_cases hlt : j < 47
    · obtain ⟨a, b, c, n, ha, hb, hc, hn⟩ : ∃ a b c n : Int, Hid (a = regIf (hRd (kf j)) x 7) ∧ Hid (b = regIf (hRs1 (kf j)) x 15) ∧ Hid (c = regIf (hRs2 (kf j)) x 20) ∧ Hid (n = number x (kf j)) := ⟨_, _, _, _, rfl, rfl, rfl, rfl⟩
      cases hask : asked x j
      · have E1 : j + 1 ≤ r := by
          rcases Nat.lt_or_eq_of_le hj with q | q
          · omega
          · have := HY.out (by omega)
            rw [← q, hask] at this; cases this
        cases hri : right (j : Int) a b c n
        · clear hask
          go_wp2_with fail
          refine (rtry_to j hlt x a b c n ha.out hb.out hc.out hn.out _).mono ?_
          rintro e w1 ⟨rfl, b1⟩
          go_wp2_with fail
          refine (rencode_no _ _ _ _ _ hri _).mono ?_
          rintro e w2 ⟨rfl, b2⟩
          go_wp2_with fail
          go_roundw
          case rel => exact ⟨j + 1, by omega, by go_num, ((HW.out.later b1).alloc _).later b2⟩
          case measure => simp [intOf]; omega
        · have hneq : (((enc (j : Int) a b c n).toNat : Int) == (x.toNat : Int)) = false := by
            rw [beq_eq_false_iff_ne]
            intro q
            have q2 : enc (j : Int) a b c n = x := BitVec.eq_of_toNat_eq (Int.natCast_inj.1 q)
            have := (there j hlt a b c n hri).1
            rw [q2, hask] at this; cases this
          clear hask
          go_wp2_with fail
          refine (rtry_to j hlt x a b c n ha.out hb.out hc.out hn.out _).mono ?_
          rintro e w1 ⟨rfl, b1⟩
          go_wp2_with fail
          refine (rencode_yes _ _ _ _ _ hri _).mono ?_
          rintro e w2 ⟨rfl, b2⟩
          go_wp2_with fail
          go_roundw
          case rel => exact ⟨j + 1, by omega, by go_num, ((HW.out.later b1).alloc _).later b2⟩
          case measure => simp [intOf]; omega
      · have e1 : j = r := by
          rcases Nat.lt_or_eq_of_le hj with q | q
          · have := HN.out j q
            rw [hask] at this; cases this
          · exact q
        obtain ⟨k1, k2, k3, k4, k5, k6⟩ := HK.out (by omega)
        rw [← e1, ← ha.out] at k2
        rw [← e1, ← hb.out] at k3
        rw [← e1, ← hc.out] at k4
        rw [← e1, ← hn.out] at k5
        rw [← e1] at k1
        have hag := again j hlt x hask
        rw [← ha.out, ← hb.out, ← hc.out, ← hn.out] at hag
        obtain ⟨hri, hen⟩ := hag
        have HEN : Hid (enc (j : Int) a b c n = x) := hen
        subst k1 k2 k3 k4 k5 k6
        clear hask e1 hen
        go_wp2_with fail
        refine (rtry_to j hlt x _ _ _ _ ha.out hb.out hc.out hn.out _).mono ?_
        rintro e w1 ⟨rfl, b1⟩
        go_wp2_with fail
        refine (renc_to _ _ _ _ _ x hri HEN.out _).mono ?_
        rintro e w2 ⟨rfl, b2⟩
        obtain ⟨c2, _⟩ := bcell b2
        have z2 : w1.heap.size < w2.heap.size := by have := b2.size; simp at this; omega
        obtain ⟨y0, y1, y2, y3, y4, yf, hB, ys⟩ := ((HW.out.later b1).alloc _).later b2
        go_wp2_with fail
        refine bodyPost_ret (by simp [results, Tryz.results22, go_sem, y0, y1, y2, y3, y4]) rfl ⟨rfl, ?_⟩
        exact ((((hB.setCell (Nat.le_refl _) _).setCell (Nat.le_refl _) _).setCell (Nat.le_refl _) _).setCell (Nat.le_refl _) _).setCell (Nat.le_refl _) _
    · have e1 : j = 47 := by omega
      have e2 : r = 47 := by omega
      obtain ⟨k1, k2, k3, k4, k5, k6⟩ := HZ.out e2
      subst k1 k2 k3 k4 k5 k6
      obtain ⟨y0, y1, y2, y3, y4, yf, hB, ys⟩ := HW.out
      clear e1 e2
      go_wp2_with fail
      refine bodyPost_ret (by simp [results, Tryz.results22, go_sem, y0, y1, y2, y3, y4]) rfl ⟨rfl, ?_⟩
      exact ((((hB.setCell (Nat.le_refl _) _).setCell (Nat.le_refl _) _).setCell (Nat.le_refl _) _).setCell (Nat.le_refl _) _).setCell (Nat.le_refl _) _
end Go.Proofs.YtcffpmicencfpabGreat
namespace Go.Proofs.YtcffpmicencfpabGreat
open Go.RowKit Ip

theorem rdecode_kind (x : BitVec 32) (k : Nat) (hk : k < 47) (h : asked x k = true) (w : World) :
    Calls Tryz.prog 22 #[.int .u32 (x.toNat : Int)] w fun e w' => e = .returned (.tuple #[.agg #[.int .i64 (k : Int), .int .i64 (regIf (hRd (kf k)) x 7), .int .i64 (regIf (hRs1 (kf k)) x 15), .int .i64 (regIf (hRs2 (kf k)) x 20), .int .i64 (number x (kf k))], .int .i64 0]) ∧ Below w.heap.size w w' := by
  refine rdecode_core x k (by omega) (fun j hj => ?_) (fun _ => h) _ _ _ _ _ _ (fun _ => ⟨rfl, rfl, rfl, rfl, rfl, rfl⟩) (fun c => by omega) w
  cases e : asked x j with
  | false => rfl
  | true => exact absurd (asked_one x j k (by omega) hk e h) (by omega)
theorem rdecode_none (x : BitVec 32) (h : ∀ k, k < 47 → asked x k = false) (w : World) : Calls Tryz.prog 22 #[.int .u32 (x.toNat : Int)] w fun e w' => e = .returned (.tuple #[.agg #[.int .i64 0, .int .i64 0, .int .i64 0, .int .i64 0, .int .i64 0], .int .i64 20]) ∧ Below w.heap.size w w' :=
  rdecode_core x 47 (Nat.le_refl _) h (fun c => absurd c (by omega)) _ _ _ _ _ _ (fun c => absurd c (by omega)) (fun _ => ⟨rfl, rfl, rfl, rfl, rfl, rfl⟩) w
/-- What both Decodes answer: the same. -/
theorem dec_both (x : BitVec 32) : ∃ op a b c n E : Int,
    (∀ w : World, Calls Tryz.prog 46 #[.int .u32 (x.toNat : Int)] w fun e w' => e = .returned (.tuple #[.agg #[.int .i64 op, .int .i64 a, .int .i64 b, .int .i64 c, .int .i64 n], .int .i64 E]) ∧ Below w.heap.size w w') ∧
    (∀ w : World, Calls Tryz.prog 22 #[.int .u32 (x.toNat : Int)] w fun e w' => e = .returned (.tuple #[.agg #[.int .i64 op, .int .i64 a, .int .i64 b, .int .i64 c, .int .i64 n], .int .i64 E]) ∧ Below w.heap.size w w') := by
  rcases kind_or x with ⟨k, hk, hx⟩ | hx
  · exact ⟨_, _, _, _, _, _, fun w => decode_kind x k hk hx w, fun w => rdecode_kind x k hk hx w⟩
  · exact ⟨_, _, _, _, _, _, fun w => decode_none x hx w, fun w => rdecode_none x hx w⟩

end Go.Proofs.YtcffpmicencfpabGreat
