/-
  The walk of WordOrders: it answers true of any two words.
-/
import Derived.Test.YtbjfkpmhcegimabF
namespace Go.Proofs.Ytbjfkpmhcegimab
open Go.RowKit

theorem one_le (p : Bool) : ((Wd.one p).toNat : Int) ≤ 1 := by cases p <;> decide
theorem ult_sum (a b : BitVec 32) : (((Wd.one (a.ult b)).toNat : Int) + ((Wd.one (b.ult a)).toNat : Int) ≤ 1) ∧ (a ≠ b → 1 ≤ ((Wd.one (a.ult b)).toNat : Int) + ((Wd.one (b.ult a)).toNat : Int)) := by
  rw [BitVec.ult_eq_decide, BitVec.ult_eq_decide]
  by_cases h1 : a.toNat < b.toNat
  · have h2 : ¬ b.toNat < a.toNat := by omega
    simp [h1, h2, Wd.one]
  · by_cases h2 : b.toNat < a.toNat
    · simp [h1, h2, Wd.one]
    · simp [h1, h2, Wd.one]
      apply BitVec.eq_of_toNat_eq; omega
theorem slt_sum (a b : BitVec 32) : (((Wd.one (a.slt b)).toNat : Int) + ((Wd.one (b.slt a)).toNat : Int) ≤ 1) ∧ (a ≠ b → 1 ≤ ((Wd.one (a.slt b)).toNat : Int) + ((Wd.one (b.slt a)).toNat : Int)) := by
  rw [BitVec.slt_eq_decide, BitVec.slt_eq_decide]
  by_cases h1 : a.toInt < b.toInt
  · have h2 : ¬ b.toInt < a.toInt := by omega
    simp [h1, h2, Wd.one]
  · by_cases h2 : b.toInt < a.toInt
    · simp [h1, h2, Wd.one]
    · simp [h1, h2, Wd.one]
      apply BitVec.eq_of_toInt_eq; omega
theorem top_flip (a : BitVec 32) : ((a ^^^ (BitVec.ofNat 32 2147483648)).toNat : Int) = a.toInt + 2147483648 := by
  have h : a ^^^ (BitVec.ofNat 32 2147483648) = a + (BitVec.ofNat 32 2147483648) := by
    have e : a ^^^ (BitVec.ofNat 32 2147483648) = (a ||| (BitVec.ofNat 32 2147483648)) - (a &&& (BitVec.ofNat 32 2147483648)) := (Wd.or_sub_and _ _).symm
    have e2 := Wd.and_add_or a (BitVec.ofNat 32 2147483648)
    have m : a &&& (BitVec.ofNat 32 2147483648) = (BitVec.ofNat 32 0) ∨ a &&& (BitVec.ofNat 32 2147483648) = (BitVec.ofNat 32 2147483648) := by
      have hp : ((BitVec.ofNat 32 2147483648)) = BitVec.twoPow 32 31 := rfl
      rw [hp, BitVec.and_twoPow]
      split
      · right; rfl
      · left; rfl
    rcases m with m | m
    · rw [m] at e e2; bv_omega
    · rw [m] at e e2; bv_omega
  rw [h, BitVec.toInt_eq_toNat_cond, BitVec.toNat_add]
  have := a.isLt
  split <;> simp <;> omega
theorem slt_flip (a b : BitVec 32) : a.slt b = (a ^^^ (BitVec.ofNat 32 2147483648)).ult (b ^^^ (BitVec.ofNat 32 2147483648)) := by
  rw [BitVec.slt_eq_decide, BitVec.ult_eq_decide, decide_eq_decide]
  have h1 := top_flip a; have h2 := top_flip b
  omega

theorem wordOrders_walk (a b : BitVec 32) (w : World) : Calls Try.prog 3 #[.int .u32 (a.toNat : Int), .int .u32 (b.toNat : Int)] w fun e w' => e = .returned (.bool true) ∧ ∃ k, w' = w.drewN k := by
  have b1 : ((Wd.does 31 a b).toNat : Int) ≤ 1 := one_le _
  have b2 : ((Wd.does 31 b a).toNat : Int) ≤ 1 := one_le _
  have b3 : ((Wd.does 30 a b).toNat : Int) ≤ 1 := one_le _
  have b4 : ((Wd.does 30 b a).toNat : Int) ≤ 1 := one_le _
  have c1 : ((Wd.does 31 a b).toNat : Int) + ((Wd.does 31 b a).toNat : Int) ≤ 1 := (ult_sum a b).1
  have c2 : ((Wd.does 30 a b).toNat : Int) + ((Wd.does 30 b a).toNat : Int) ≤ 1 := (slt_sum a b).1
  have x1 : bits .xor .u32 (a.toNat : Int) 2147483648 = ((a ^^^ (BitVec.ofNat 32 2147483648)).toNat : Int) := Wd.xor_ a (BitVec.ofNat 32 2147483648)
  have x2 : bits .xor .u32 (b.toNat : Int) 2147483648 = ((b ^^^ (BitVec.ofNat 32 2147483648)).toNat : Int) := Wd.xor_ b (BitVec.ofNat 32 2147483648)
  have t5 : (((Wd.does 30 a b).toNat : Int) == ((Wd.does 31 (a ^^^ (BitVec.ofNat 32 2147483648)) (b ^^^ (BitVec.ofNat 32 2147483648))).toNat : Int)) = true := Wd.beq_of (by rw [Wd.does_30, Wd.does_31, slt_flip])
  by_cases h : a = b
  · have d1 : ((Wd.does 31 a b).toNat : Int) + ((Wd.does 31 b a).toNat : Int) = 0 := by subst h; rw [Wd.does_31, show a.ult a = false from by simp [BitVec.ult_eq_decide]]; rfl
    have d2 : ((Wd.does 30 a b).toNat : Int) + ((Wd.does 30 b a).toNat : Int) = 0 := by subst h; rw [Wd.does_30, show a.slt a = false from by simp [BitVec.slt_eq_decide]]; rfl
    have g : ((a.toNat : Int) == (b.toNat : Int)) = true := Wd.beq_of h
    clear h
    go_enter Try.func3, Try.ntmps3
    go_wp2_with fail
    refine (does_at 31 _ _ a b rfl rfl _).mono ?_
    rintro e w1 ⟨rfl, rfl⟩
    go_wp2_with fail
    refine (does_at 31 _ _ b a rfl rfl _).mono ?_
    rintro e w1 ⟨rfl, rfl⟩
    go_wp2_with fail
    refine (does_at 30 _ _ a b rfl rfl _).mono ?_
    rintro e w1 ⟨rfl, rfl⟩
    go_wp2_with fail
    refine (does_at 30 _ _ b a rfl rfl _).mono ?_
    rintro e w1 ⟨rfl, rfl⟩
    go_wp2_with fail
    refine (does_at 31 _ _ (a ^^^ (BitVec.ofNat 32 2147483648)) (b ^^^ (BitVec.ofNat 32 2147483648)) (by simp) (by simp) _).mono ?_
    rintro e w1 ⟨rfl, rfl⟩
    go_wp2_with fail
    refine (fixed_any _).mono ?_
    rintro e w1 ⟨rfl, k, rfl⟩
    go_wp2_with fail
    go_ret
    exact ⟨rfl, _, rfl⟩
  · have d1 : 1 ≤ ((Wd.does 31 a b).toNat : Int) + ((Wd.does 31 b a).toNat : Int) := (ult_sum a b).2 h
    have d2 : 1 ≤ ((Wd.does 30 a b).toNat : Int) + ((Wd.does 30 b a).toNat : Int) := (slt_sum a b).2 h
    have z1 : (((Wd.does 31 a b).toNat : Int) + ((Wd.does 31 b a).toNat : Int) == 0) = false := by rw [beq_eq_false_iff_ne]; omega
    have z2 : (((Wd.does 30 a b).toNat : Int) + ((Wd.does 30 b a).toNat : Int) == 0) = false := by rw [beq_eq_false_iff_ne]; omega
    have g : ((a.toNat : Int) == (b.toNat : Int)) = false := by
      rw [beq_eq_false_iff_ne]; intro e; exact h (BitVec.eq_of_toNat_eq (by omega))
    clear h
    go_enter Try.func3, Try.ntmps3
    go_wp2_with fail
    refine (does_at 31 _ _ a b rfl rfl _).mono ?_
    rintro e w1 ⟨rfl, rfl⟩
    go_wp2_with fail
    refine (does_at 31 _ _ b a rfl rfl _).mono ?_
    rintro e w1 ⟨rfl, rfl⟩
    go_wp2_with fail
    refine (does_at 30 _ _ a b rfl rfl _).mono ?_
    rintro e w1 ⟨rfl, rfl⟩
    go_wp2_with fail
    refine (does_at 30 _ _ b a rfl rfl _).mono ?_
    rintro e w1 ⟨rfl, rfl⟩
    go_wp2_with fail
    refine (does_at 31 _ _ (a ^^^ (BitVec.ofNat 32 2147483648)) (b ^^^ (BitVec.ofNat 32 2147483648)) (by simp) (by simp) _).mono ?_
    rintro e w1 ⟨rfl, rfl⟩
    go_wp2_with fail
    refine (fixed_any _).mono ?_
    rintro e w1 ⟨rfl, k, rfl⟩
    go_wp2_with fail
    go_ret
    exact ⟨rfl, _, rfl⟩

end Go.Proofs.Ytbjfkpmhcegimab
