/-
  Contracts of the document's Sign and Put: each comes to the same plain function as the program's own.
-/
import Derived.Test.YtilphdfobflbiaaR
namespace Go.Proofs.Ytilphdfobflbiaa
open Go.RowKit

theorem bitAt_nat (x : BitVec 32) (k : Nat) : bitAt x (k : Int) = x.getLsbD k := by
  unfold bitAt; rw [decide_eq_true (by omega), Int.toNat_natCast]; rfl

theorem min_bit (x : BitVec 32) (n : Int) (k : Nat) (h1 : 1 ≤ n) (h2 : n ≤ 31) (hk : k < 32) : bitAt x (if n - 1 < (k : Int) then n - 1 else (k : Int)) = (Wd.sign x n).getLsbD k := by
  rw [Wd.sign_get x n h1 h2 k hk]
  unfold bitAt
  by_cases h : n - 1 < (k : Int)
  · rw [if_pos h, decide_eq_true (by omega), show (n - 1).toNat = min k (n.toNat - 1) by omega]; rfl
  · rw [if_neg h, decide_eq_true (by omega), show (k : Int).toNat = min k (n.toNat - 1) by omega]; rfl

theorem put_round_out (x : BitVec 32) (a n : Int) (v : BitVec 32) (k : Nat) (hk : k < 32) (h : Wd.within a n = true → ¬ (a.toNat ≤ k ∧ k < a.toNat + n.toNat)) (j : Nat) (_hj : j < 32) :
    (if j = k then bitAt x (k : Int) else (decide (j < k) && (Wd.put x a n v).getLsbD j)) = (decide (j < k + 1) && (Wd.put x a n v).getLsbD j) := by
  by_cases e : j = k
  · subst e
    rw [if_pos rfl, bitAt_nat, decide_eq_true (by omega)]
    by_cases hw : Wd.within a n = true
    · rw [Wd.put_get x a n v hw j hk, if_neg (h hw)]; rfl
    · unfold Wd.put; rw [if_neg hw]; rfl
  · have e2 : (j < k + 1) = (j < k) := propext (by omega)
    simp [e, e2]
theorem put_round_in (x : BitVec 32) (a n : Int) (v : BitVec 32) (k : Nat) (hk : k < 32) (hw : Wd.within a n = true) (h1 : a ≤ (k : Int)) (h2 : (k : Int) < a + n) (j : Nat) (_hj : j < 32) :
    (if j = k then bitAt v ((k : Int) - a) else if j = k then bitAt x (k : Int) else (decide (j < k) && (Wd.put x a n v).getLsbD j)) = (decide (j < k + 1) && (Wd.put x a n v).getLsbD j) := by
  have hb := Wd.of_within hw
  by_cases e : j = k
  · subst e
    rw [if_pos rfl, decide_eq_true (by omega), Wd.put_get x a n v hw j hk, if_pos (by omega)]
    unfold bitAt; rw [decide_eq_true (by omega), show ((j : Int) - a).toNat = j - a.toNat by omega]
  · have e2 : (j < k + 1) = (j < k) := propext (by omega)
    simp [e, e2]

end Go.Proofs.Ytilphdfobflbiaa
