/-
  The walk of WordBits: it answers true of any two words.
-/
import Derived.Test.YtbjfkpmhcegimabF
namespace Go.Proofs.Ytbjfkpmhcegimab
open Go.RowKit

theorem wordBits_walk (a b : BitVec 32) (w : World) : Calls Try.prog 5 #[.int .u32 (a.toNat : Int), .int .u32 (b.toNat : Int)] w fun e w' => e = .returned (.bool true) ∧ ∃ k, w' = w.drewN k := by
  have t1 : (((Wd.does 27 (Wd.does 36 a b) (Wd.does 35 a b)).toNat : Int) == ((Wd.does 27 a b).toNat : Int)) = true := Wd.beq_of (by rw [Wd.does_27, Wd.does_27, Wd.does_35, Wd.does_36]; exact Wd.and_add_or a b)
  have t2 : (((Wd.does 28 (Wd.does 35 a b) (Wd.does 36 a b)).toNat : Int) == ((Wd.does 32 a b).toNat : Int)) = true := Wd.beq_of (by rw [Wd.does_28, Wd.does_32, Wd.does_35, Wd.does_36]; exact Wd.or_sub_and a b)
  have t3 : (((Wd.does 32 (Wd.does 32 a b) b).toNat : Int) == (a.toNat : Int)) = true := Wd.beq_of (by rw [Wd.does_32, Wd.does_32, BitVec.xor_assoc]; simp)
  have t4 : (((Wd.does 36 (Wd.does 36 a b) (Wd.does 32 a b)).toNat : Int) == 0) = true := Wd.beq_lit (y := (BitVec.ofNat 32 0)) (by rw [Wd.does_32, Wd.does_36, Wd.does_36]; ext i hi; simp; intros; simp [*]) rfl
  go_enter Try.func5, Try.ntmps5
  go_wp2_with fail
  refine (does_at 36 _ _ a b rfl rfl _).mono ?_
  rintro e w1 ⟨rfl, rfl⟩
  go_wp2_with fail
  refine (does_at 35 _ _ a b rfl rfl _).mono ?_
  rintro e w1 ⟨rfl, rfl⟩
  go_wp2_with fail
  refine (does_at 32 _ _ a b rfl rfl _).mono ?_
  rintro e w1 ⟨rfl, rfl⟩
  go_wp2_with fail
  refine (does_at 27 _ _ (Wd.does 36 a b) (Wd.does 35 a b) rfl rfl _).mono ?_
  rintro e w1 ⟨rfl, rfl⟩
  go_wp2_with fail
  refine (does_at 27 _ _ a b rfl rfl _).mono ?_
  rintro e w1 ⟨rfl, rfl⟩
  go_wp2_with fail
  refine (does_at 28 _ _ (Wd.does 35 a b) (Wd.does 36 a b) rfl rfl _).mono ?_
  rintro e w1 ⟨rfl, rfl⟩
  go_wp2_with fail
  refine (does_at 32 _ _ (Wd.does 32 a b) b rfl rfl _).mono ?_
  rintro e w1 ⟨rfl, rfl⟩
  go_wp2_with fail
  refine (does_at 36 _ _ (Wd.does 36 a b) (Wd.does 32 a b) rfl rfl _).mono ?_
  rintro e w1 ⟨rfl, rfl⟩
  go_wp2_with fail
  refine (fixed_any _).mono ?_
  rintro e w1 ⟨rfl, k, rfl⟩
  go_wp2_with fail
  go_ret
  exact ⟨rfl, _, rfl⟩
end Go.Proofs.Ytbjfkpmhcegimab
