/-
  Plain facts on the fields of a word, bit by bit. No program in sight.
-/
import Derived.Test.YtilphdfobflbiaaM
namespace Go.Proofs.Ytilphdfobflbiaa
open Go.RowKit
namespace Wd

theorem within_of (a n : Int) (h : 0 ≤ a ∧ a ≤ 31 ∧ 1 ≤ n ∧ n ≤ 32 ∧ a + n ≤ 32) : within a n = true := by unfold within; rw [decide_eq_true_eq]; exact h
theorem of_within {a n : Int} (h : within a n = true) : 0 ≤ a ∧ a ≤ 31 ∧ 1 ≤ n ∧ n ≤ 32 ∧ a + n ≤ 32 := of_decide_eq_true h

theorem field_get (w : BitVec 32) (a n : Int) (h : within a n = true) (i : Nat) (hi : i < 32) :
    (field w a n).getLsbD i = (decide (i < n.toNat) && w.getLsbD (a.toNat + i)) := by
  unfold field; rw [if_pos h, BitVec.getLsbD_and, BitVec.getLsbD_ushiftRight, mask_get _ _ hi, Bool.and_comm]
theorem put_get (w : BitVec 32) (a n : Int) (v : BitVec 32) (h : within a n = true) (i : Nat) (hi : i < 32) :
    (put w a n v).getLsbD i = if a.toNat ≤ i ∧ i < a.toNat + n.toNat then v.getLsbD (i - a.toNat) else w.getLsbD i := by
  have hb := of_within h
  unfold put
  rw [if_pos h, BitVec.getLsbD_or, BitVec.getLsbD_and, BitVec.getLsbD_not, BitVec.getLsbD_shiftLeft, BitVec.getLsbD_shiftLeft, BitVec.getLsbD_and]
  by_cases h1 : i < a.toNat
  · rw [if_neg (by omega)]; simp [h1, hi]
  · rw [mask_get _ _ (by omega)]
    by_cases h2 : i - a.toNat < n.toNat
    · rw [if_pos (by omega)]; simp [h1, h2, hi]
    · rw [if_neg (by omega)]; simp [h1, h2, hi]
theorem sign_get (w : BitVec 32) (n : Int) (h1 : 1 ≤ n) (h2 : n ≤ 31) (i : Nat) (hi : i < 32) :
    (sign w n).getLsbD i = w.getLsbD (min i (n.toNat - 1)) := by
  unfold sign; rw [if_pos ⟨h1, h2⟩]
  by_cases hb : w.getLsbD (n.toNat - 1) = true
  · rw [if_pos hb, BitVec.getLsbD_or, BitVec.getLsbD_not, mask_get _ _ hi]
    by_cases h : i < n.toNat
    · rw [show min i (n.toNat - 1) = i by omega]; simp [h]
    · rw [show min i (n.toNat - 1) = n.toNat - 1 by omega, hb]; simp [h, hi]
  · rw [if_neg hb, BitVec.getLsbD_and, mask_get _ _ hi]
    by_cases h : i < n.toNat
    · rw [show min i (n.toNat - 1) = i by omega]; simp [h]
    · rw [show min i (n.toNat - 1) = n.toNat - 1 by omega]; simp [h] at hb ⊢; exact hb
theorem field_whole (w : BitVec 32) : field w 0 32 = w := by
  apply BitVec.eq_of_getLsbD_eq; intro i hi
  rw [field_get w 0 32 (by decide) i hi]; simp [hi]
theorem field_low_lt (w : BitVec 32) (n : Int) (h1 : 1 ≤ n) (h2 : n ≤ 32) : ((field w 0 n).toNat : Int) < 2 ^ n.toNat := by
  have hw := within_of 0 n (by omega)
  unfold field; rw [if_pos hw, BitVec.toNat_and, mask_toNat _ (by omega), Nat.and_two_pow_sub_one_eq_mod]
  have : (w >>> (0 : Int).toNat).toNat % 2 ^ n.toNat < 2 ^ n.toNat := Nat.mod_lt _ (Nat.pow_pos (by decide))
  exact_mod_cast this
theorem and16 (c : Int) : ∃ d : Int, 0 ≤ d ∧ d ≤ 65535 ∧ bits .and .i64 c 65535 = d := by
  refine ⟨_, ?_, ?_, rfl⟩
  all_goals
    have e : bits .and .i64 c 65535 = IntKind.i64.wrap ((BitVec.ofInt 64 c &&& BitVec.ofInt 64 65535).toNat : Int) := rfl
    have m : (BitVec.ofInt 64 c &&& BitVec.ofInt 64 65535).toNat = (BitVec.ofInt 64 c).toNat % 65536 := by
      rw [BitVec.toNat_and]; exact Nat.and_two_pow_sub_one_eq_mod _ 16
    rw [e, m, IntKind.wrap_i64]; omega
theorem put_back (w v : BitVec 32) (k : Int) (h1 : 1 ≤ k) (h2 : k ≤ 31) :
    put (put v 0 k (field w 0 k)) k (32 - k) (field w k (32 - k)) = w := by
  have w1 := within_of 0 k (by omega)
  have w2 := within_of k (32 - k) (by omega)
  apply BitVec.eq_of_getLsbD_eq; intro i hi
  rw [put_get _ _ _ _ w2 i hi, put_get _ _ _ _ w1 i hi]
  by_cases h : i < k.toNat
  · rw [if_neg (by omega), if_pos (by simp; omega), field_get _ _ _ w1 _ (by simp; omega)]; simp [h]
  · rw [if_pos (by omega), field_get _ _ _ w2 _ (by omega)]
    rw [show k.toNat + (i - k.toNat) = i by omega, show decide (i - k.toNat < (32 - k).toNat) = true by rw [decide_eq_true_eq]; omega]; simp
theorem join (w : BitVec 32) (k : Int) (h1 : 1 ≤ k) (h2 : k ≤ 31) : (field w k (32 - k) <<< k.toNat) ||| field w 0 k = w := by
  have w1 := within_of 0 k (by omega)
  have w2 := within_of k (32 - k) (by omega)
  apply BitVec.eq_of_getLsbD_eq; intro i hi
  rw [BitVec.getLsbD_or, BitVec.getLsbD_shiftLeft, field_get _ _ _ w1 i hi]
  by_cases h : i < k.toNat
  · simp [h]
  · rw [field_get _ _ _ w2 _ (by omega), show k.toNat + (i - k.toNat) = i by omega, show decide (i - k.toNat < (32 - k).toNat) = true by rw [decide_eq_true_eq]; omega]
    simp [h, hi]
theorem field_put (w v : BitVec 32) (a n : Int) (h : within a n = true) : field (put w a n v) a n = field v 0 n := by
  have hb := of_within h
  have w1 := within_of 0 n (by omega)
  apply BitVec.eq_of_getLsbD_eq; intro i hi
  rw [field_get _ _ _ h i hi, field_get _ _ _ w1 i hi]
  by_cases h1 : i < n.toNat
  · rw [put_get _ _ _ _ h _ (by omega), if_pos (by omega), show a.toNat + i - a.toNat = i by omega]; simp
  · simp [h1]
theorem put_again (w v : BitVec 32) (a n : Int) (h : within a n = true) : put (put w a n v) a n (field w a n) = w := by
  have hb := of_within h
  apply BitVec.eq_of_getLsbD_eq; intro i hi
  rw [put_get _ _ _ _ h i hi]
  by_cases h1 : a.toNat ≤ i ∧ i < a.toNat + n.toNat
  · rw [if_pos h1, field_get _ _ _ h _ (by omega), show a.toNat + (i - a.toNat) = i by omega, show decide (i - a.toNat < n.toNat) = true by rw [decide_eq_true_eq]; omega]; simp
  · rw [if_neg h1, put_get _ _ _ _ h i hi, if_neg h1]
theorem sign_field (v : BitVec 32) (n : Int) (h1 : 1 ≤ n) (h2 : n ≤ 31) : sign v n = sign (field v 0 n) n := by
  have w1 := within_of 0 n (by omega)
  apply BitVec.eq_of_getLsbD_eq; intro i hi
  rw [sign_get _ _ h1 h2 i hi, sign_get _ _ h1 h2 i hi, field_get _ _ _ w1 _ (by omega)]
  rw [show decide (min i (n.toNat - 1) < n.toNat) = true by rw [decide_eq_true_eq]; omega]; simp
theorem field_sign (v : BitVec 32) (n : Int) (h1 : 1 ≤ n) (h2 : n ≤ 31) : field (sign v n) 0 n = field v 0 n := by
  have w1 := within_of 0 n (by omega)
  apply BitVec.eq_of_getLsbD_eq; intro i hi
  rw [field_get _ _ _ w1 i hi, field_get _ _ _ w1 i hi]
  by_cases h : i < n.toNat
  · rw [sign_get _ _ h1 h2 _ (by simp; omega), show min ((0 : Int).toNat + i) (n.toNat - 1) = (0 : Int).toNat + i by simp; omega]
  · simp [h]
theorem toNat_natCast_inj (a b : Nat) : ((a : Int) = (b : Int)) = (a = b) := propext Int.natCast_inj
end Wd
end Go.Proofs.Ytilphdfobflbiaa
