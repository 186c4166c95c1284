/-
  The walk of WordTwos: it answers true of any two words.
-/
import Derived.Test.YtbjfkpmhcegimabF
namespace Go.Proofs.Ytbjfkpmhcegimab
open Go.RowKit

theorem wordTwos_walk (a b : BitVec 32) (w : World) : Calls Try.prog 4 #[.int .u32 (a.toNat : Int), .int .u32 (b.toNat : Int)] w fun e w' => e = .returned (.bool true) ∧ ∃ k, w' = w.drewN k := by
  have t1 : (((Wd.does 27 b (Wd.does 28 (BitVec.ofNat 32 0) b)).toNat : Int) == 0) = true := Wd.beq_lit (y := (BitVec.ofNat 32 0)) (by rw [Wd.does_27, Wd.does_28]; bv_omega) rfl
  have t2 : (((Wd.does 27 a (Wd.does 28 (BitVec.ofNat 32 0) b)).toNat : Int) == ((Wd.does 28 a b).toNat : Int)) = true := Wd.beq_of (by rw [Wd.does_27, Wd.does_28, Wd.does_28]; bv_omega)
  have t3 : (((Wd.does 27 (Wd.does 32 b (BitVec.ofNat 32 4294967295)) (BitVec.ofNat 32 1)).toNat : Int) == ((Wd.does 28 (BitVec.ofNat 32 0) b).toNat : Int)) = true := Wd.beq_of (by rw [Wd.does_27, Wd.does_28, Wd.does_32, show ((BitVec.ofNat 32 4294967295)) = BitVec.allOnes 32 from rfl, BitVec.xor_allOnes]; bv_omega)
  go_enter Try.func4, Try.ntmps4
  go_wp2_with fail
  refine (does_at 28 0 _ (BitVec.ofNat 32 0) b rfl rfl _).mono ?_
  rintro e w1 ⟨rfl, rfl⟩
  go_wp2_with fail
  refine (does_at 27 _ _ b (Wd.does 28 (BitVec.ofNat 32 0) b) rfl rfl _).mono ?_
  rintro e w1 ⟨rfl, rfl⟩
  go_wp2_with fail
  refine (does_at 27 _ _ a (Wd.does 28 (BitVec.ofNat 32 0) b) rfl rfl _).mono ?_
  rintro e w1 ⟨rfl, rfl⟩
  go_wp2_with fail
  refine (does_at 28 _ _ a b rfl rfl _).mono ?_
  rintro e w1 ⟨rfl, rfl⟩
  go_wp2_with fail
  refine (does_at 32 _ 4294967295 b (BitVec.ofNat 32 4294967295) rfl rfl _).mono ?_
  rintro e w1 ⟨rfl, rfl⟩
  go_wp2_with fail
  refine (does_at 27 _ 1 (Wd.does 32 b (BitVec.ofNat 32 4294967295)) (BitVec.ofNat 32 1) rfl rfl _).mono ?_
  rintro e w1 ⟨rfl, rfl⟩
  go_wp2_with fail
  refine (fixed_any _).mono ?_
  rintro e w1 ⟨rfl, k, rfl⟩
  go_wp2_with fail
  go_ret
  exact ⟨rfl, _, rfl⟩
end Go.Proofs.Ytbjfkpmhcegimab
