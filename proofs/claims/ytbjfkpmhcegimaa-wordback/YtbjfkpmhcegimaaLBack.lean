/-
  The walk of WordBack: it answers true of any words, places and lengths.
-/
import Derived.Test.YtbjfkpmhcegimaaF
import Derived.Test.YtbjfkpmhcegimaaM2
namespace Go.Proofs.Ytbjfkpmhcegimaa
open Go.RowKit

theorem and5 (c : Int) : ∃ d : Int, 0 ≤ d ∧ d ≤ 31 ∧ bits .and .i64 c 31 = d := by
  refine ⟨_, ?_, ?_, rfl⟩
  all_goals
    have e : bits .and .i64 c 31 = IntKind.i64.wrap ((BitVec.ofInt 64 c &&& BitVec.ofInt 64 31).toNat : Int) := rfl
    have m : (BitVec.ofInt 64 c &&& BitVec.ofInt 64 31).toNat = (BitVec.ofInt 64 c).toNat % 32 := by
      rw [BitVec.toNat_and]; exact Nat.and_two_pow_sub_one_eq_mod _ 5
    rw [e, m, IntKind.wrap_i64]; omega

theorem wordBack_walk (x v : BitVec 32) (p n : Int) (z : BitVec 32) (w : World) : Calls Try.prog 5 #[.int .u32 (x.toNat : Int), .int .u32 (v.toNat : Int), .agg #[.int .i64 p, .int .i64 n, .int .u32 (z.toNat : Int)]] w fun e w' => e = .returned (.bool true) ∧ Grown w w' := by
  obtain ⟨d, d0, d1, hd⟩ := Wd.and16 n
  obtain ⟨a, a0, a1, ha⟩ := and5 p
  obtain ⟨m, m0, m1, hm⟩ : ∃ m : Int, 0 ≤ m ∧ m < 32 - a ∧ d % (32 - a) = m := ⟨_, Int.emod_nonneg _ (by omega), Int.emod_lt_of_pos _ (by omega), rfl⟩
  have hw := Wd.within_of a (1 + m) (by omega)
  have t1 : (((Wd.field (Wd.put x a (1 + m) v) a (1 + m)).toNat : Int) != ((Wd.field v 0 (1 + m)).toNat : Int)) = false := Wd.bne_of (Wd.field_put x v a _ hw)
  have t2 : (((Wd.put (Wd.put x a (1 + m) v) a (1 + m) (Wd.field x a (1 + m))).toNat : Int) != (x.toNat : Int)) = false := Wd.bne_of (Wd.put_again x v a _ hw)
  have t5 : (((Wd.field x 0 32).toNat : Int) == (x.toNat : Int)) = true := Wd.beq_of (Wd.field_whole x)
  clear hw
  by_cases h : m < 31
  · have t3 : (((Wd.sign v (1 + m)).toNat : Int) != ((Wd.sign (Wd.field v 0 (1 + m)) (1 + m)).toNat : Int)) = false := Wd.bne_of (Wd.sign_field v _ (by omega) (by omega))
    have t4 : (((Wd.field (Wd.sign v (1 + m)) 0 (1 + m)).toNat : Int) != ((Wd.field v 0 (1 + m)).toNat : Int)) = false := Wd.bne_of (Wd.field_sign v _ (by omega) (by omega))
    go_enter Try.func5, Try.ntmps5
    go_wp2_with fail
    refine (put_any x a (1 + m) v _).mono ?_
    rintro e w1 ⟨rfl, k, rfl⟩
    go_wp2_with fail
    refine (field_any (Wd.put x a (1 + m) v) a (1 + m) _).mono ?_
    rintro e w1 ⟨rfl, k, rfl⟩
    go_wp2_with fail
    refine (field_any v 0 (1 + m) _).mono ?_
    rintro e w1 ⟨rfl, k, rfl⟩
    go_wp2_with fail
    refine (field_any x a (1 + m) _).mono ?_
    rintro e w1 ⟨rfl, k, rfl⟩
    go_wp2_with fail
    refine (put_any (Wd.put x a (1 + m) v) a (1 + m) (Wd.field x a (1 + m)) _).mono ?_
    rintro e w1 ⟨rfl, k, rfl⟩
    go_wp2_with fail
    refine (sign_any v (1 + m) _).mono ?_
    rintro e w1 ⟨rfl, k, rfl⟩
    go_wp2_with fail
    refine (field_any v 0 (1 + m) _).mono ?_
    rintro e w1 ⟨rfl, k, rfl⟩
    go_wp2_with fail
    refine (sign_any (Wd.field v 0 (1 + m)) (1 + m) _).mono ?_
    rintro e w1 ⟨rfl, k, rfl⟩
    go_wp2_with fail
    refine (sign_any v (1 + m) _).mono ?_
    rintro e w1 ⟨rfl, k, rfl⟩
    go_wp2_with fail
    refine (field_any (Wd.sign v (1 + m)) 0 (1 + m) _).mono ?_
    rintro e w1 ⟨rfl, k, rfl⟩
    go_wp2_with fail
    refine (field_any v 0 (1 + m) _).mono ?_
    rintro e w1 ⟨rfl, k, rfl⟩
    go_wp2_with fail
    refine (field_any x 0 32 _).mono ?_
    rintro e w1 ⟨rfl, k, rfl⟩
    go_wp2_with fail
    refine (fixed_any _).mono ?_
    rintro e w1 ⟨rfl, k, rfl⟩
    go_wp2_with fail
    go_ret
    exact ⟨rfl, (Grown.refl w).alloc _ _⟩
  · have h2 : m = 31 := by omega
    have H2 : 31 ≤ m := by omega
    clear h h2
    go_enter Try.func5, Try.ntmps5
    go_wp2_with fail
    refine (put_any x a (1 + m) v _).mono ?_
    rintro e w1 ⟨rfl, k, rfl⟩
    go_wp2_with fail
    refine (field_any (Wd.put x a (1 + m) v) a (1 + m) _).mono ?_
    rintro e w1 ⟨rfl, k, rfl⟩
    go_wp2_with fail
    refine (field_any v 0 (1 + m) _).mono ?_
    rintro e w1 ⟨rfl, k, rfl⟩
    go_wp2_with fail
    refine (field_any x a (1 + m) _).mono ?_
    rintro e w1 ⟨rfl, k, rfl⟩
    go_wp2_with fail
    refine (put_any (Wd.put x a (1 + m) v) a (1 + m) (Wd.field x a (1 + m)) _).mono ?_
    rintro e w1 ⟨rfl, k, rfl⟩
    go_wp2_with fail
    refine (field_any x 0 32 _).mono ?_
    rintro e w1 ⟨rfl, k, rfl⟩
    go_wp2_with fail
    refine (fixed_any _).mono ?_
    rintro e w1 ⟨rfl, k, rfl⟩
    go_wp2_with fail
    go_ret
    exact ⟨rfl, (Grown.refl w).alloc _ _⟩
end Go.Proofs.Ytbjfkpmhcegimaa
