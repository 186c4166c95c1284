/-
  The walk of WordHalves: it answers true of any two words and any cut.
-/
import Derived.Test.YtbjfkpmhcegimabF
import Derived.Test.YtbjfkpmhcegimabM2
namespace Go.Proofs.Ytbjfkpmhcegimab
open Go.RowKit

theorem wordHalves_walk (x v : BitVec 32) (cut : Int) (w : World) : Calls Try.prog 6 #[.int .u32 (x.toNat : Int), .int .u32 (v.toNat : Int), .int .i64 cut] w fun e w' => e = .returned (.bool true) ∧ ∃ k, w' = w.drewN k := by
  obtain ⟨d, d0, d1, hd⟩ := Wd.and16 cut
  have lo : 1 ≤ 1 + d % 31 := by omega
  have hi : 1 + d % 31 ≤ 31 := by omega
  have t1 : (((Wd.put (Wd.put v 0 (1 + d % 31) (Wd.field x 0 (1 + d % 31))) (1 + d % 31) (32 - (1 + d % 31)) (Wd.field x (1 + d % 31) (32 - (1 + d % 31)))).toNat : Int) == (x.toNat : Int)) = true := Wd.beq_of (Wd.put_back x v _ lo hi)
  have e2 : bits .or .u32 (((Wd.field x (1 + d % 31) (32 - (1 + d % 31))).toNat : Int) * 2 ^ (1 + d % 31).toNat % 4294967296) ((Wd.field x 0 (1 + d % 31)).toNat : Int) = (x.toNat : Int) := by
    rw [Wd.shl_, Wd.or_, Wd.join x _ lo hi]
  have t3 := Wd.field_low_lt x (1 + d % 31) lo (by omega)
  have e3 : (2 : Int) ^ (1 + d % 31).toNat % 4294967296 = 2 ^ (1 + d % 31).toNat := by
    have h : 2 ^ (1 + d % 31).toNat ≤ 2 ^ 31 := Nat.pow_le_pow_right (by omega) (by omega)
    have h' : (2 : Int) ^ (1 + d % 31).toNat ≤ 2 ^ 31 := by exact_mod_cast h
    exact Int.emod_eq_of_lt (Int.pow_nonneg (by decide)) (by omega)
  go_enter Try.func6, Try.ntmps6
  go_wp2_with fail
  refine (field_any x 0 (1 + d % 31) _).mono ?_
  rintro e w1 ⟨rfl, k1, rfl⟩
  go_wp2_with fail
  refine (field_any x (1 + d % 31) (32 - (1 + d % 31)) _).mono ?_
  rintro e w1 ⟨rfl, k2, rfl⟩
  go_wp2_with fail
  refine (put_any v 0 (1 + d % 31) (Wd.field x 0 (1 + d % 31)) _).mono ?_
  rintro e w1 ⟨rfl, k3, rfl⟩
  go_wp2_with fail
  refine (put_any (Wd.put v 0 (1 + d % 31) (Wd.field x 0 (1 + d % 31))) (1 + d % 31) (32 - (1 + d % 31)) (Wd.field x (1 + d % 31) (32 - (1 + d % 31))) _).mono ?_
  rintro e w1 ⟨rfl, k4, rfl⟩
  go_wp2_with fail
  refine (fixed_any _).mono ?_
  rintro e w1 ⟨rfl, k, rfl⟩
  go_wp2_with fail
  go_ret
  exact ⟨rfl, _, rfl⟩
end Go.Proofs.Ytbjfkpmhcegimab
