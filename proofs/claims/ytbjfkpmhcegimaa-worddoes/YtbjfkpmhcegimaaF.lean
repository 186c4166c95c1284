/-
  Contracts of the statements' own helpers 'does' and 'fixed': the first answers what a reckoning comes to, the second true; the world stays as it is but for draws.
-/
import Derived.Test.YtbjfkpmhcegimaaD
import Derived.Deep.QuietTactic
import Derived.BigQuiet
namespace Go.Proofs.Ytbjfkpmhcegimaa
open Go.RowKit

theorem does_any (op : Int) (x y : BitVec 32) (w : World) : Calls Try.prog 18 #[.int .i64 op, .int .u32 (x.toNat : Int), .int .u32 (y.toNat : Int)] w fun e w' => e = .returned (.int .u32 ((Wd.does op x y).toNat : Int)) ∧ w' = w := by
  by_cases h : Wd.known op = true
  · have e0 : Wd.err op = 0 := by unfold Wd.err; rw [if_pos h]
    go_enter Try.func18, Try.ntmps18
    go_wp2_with (go_at_call 16; refine (do_any _ _ _ _).mono ?_; rintro e w' ⟨rfl, rfl⟩; rw [e0])
    go_ret
    exact ⟨ret_int (by unfold Wd.does; rw [if_pos h]), rfl⟩
  · have e0 : Wd.err op = 1 := by unfold Wd.err; rw [if_neg h]
    go_enter Try.func18, Try.ntmps18
    go_wp2_with (go_at_call 16; refine (do_any _ _ _ _).mono ?_; rintro e w' ⟨rfl, rfl⟩; rw [e0])
    go_ret
    exact ⟨ret_int (by unfold Wd.does; rw [if_neg h]; rfl), rfl⟩

theorem does_at (op a b : Int) (x y : BitVec 32) (ha : a = (x.toNat : Int)) (hb : b = (y.toNat : Int)) (w : World) : Calls Try.prog 18 #[.int .i64 op, .int .u32 a, .int .u32 b] w fun e w' => e = .returned (.int .u32 ((Wd.does op x y).toNat : Int)) ∧ w' = w := by
  subst ha hb; exact does_any op x y w
theorem do_at (op a b : Int) (x y : BitVec 32) (ha : a = (x.toNat : Int)) (hb : b = (y.toNat : Int)) (w : World) : Calls Try.prog 16 #[.int .i64 op, .int .u32 a, .int .u32 b] w fun e w' => e = .returned (.tuple #[.int .u32 ((Wd.run op x y).toNat : Int), .int .i64 (Wd.err op)]) ∧ w' = w := by
  subst ha hb; exact do_any op x y w
theorem sign_at (a n : Int) (x : BitVec 32) (ha : a = (x.toNat : Int)) (w : World) : Calls Try.prog 12 #[.int .u32 a, .int .i64 n] w fun e w' => e = .returned (.int .u32 ((Wd.sign x n).toNat : Int)) ∧ ∃ k, w' = w.drewN k := by
  subst ha; exact sign_any x n w
theorem field_at (c a n : Int) (x : BitVec 32) (hc : c = (x.toNat : Int)) (w : World) : Calls Try.prog 10 #[.int .u32 c, .int .i64 a, .int .i64 n] w fun e w' => e = .returned (.int .u32 ((Wd.field x a n).toNat : Int)) ∧ ∃ k, w' = w.drewN k := by
  subst hc; exact field_any x a n w
theorem put_at (c a n d : Int) (x v : BitVec 32) (hc : c = (x.toNat : Int)) (hd : d = (v.toNat : Int)) (w : World) : Calls Try.prog 14 #[.int .u32 c, .int .i64 a, .int .i64 n, .int .u32 d] w fun e w' => e = .returned (.int .u32 ((Wd.put x a n v).toNat : Int)) ∧ ∃ k, w' = w.drewN k := by
  subst hc hd; exact put_any x a n v w

theorem fixed_any (w : World) : Calls Try.prog 9 #[] w fun e w' => e = .returned (.bool true) ∧ ∃ k, w' = w.drewN k := by
  have t0 : Wd.err 18 = 1 := by decide
  have t1 : (((Wd.sign (BitVec.ofNat 32 4095) 12).toNat : Int) == 4294967295) = true := by decide
  have t2 : (((Wd.field (BitVec.ofNat 32 305419896) 8 8).toNat : Int) == 86) = true := by decide
  have t3 : (((Wd.put (BitVec.ofNat 32 0) 4 4 (BitVec.ofNat 32 171)).toNat : Int) == 176) = true := by decide
  have t4 : (((Wd.does 41 (BitVec.ofNat 32 7) (BitVec.ofNat 32 0)).toNat : Int) == 4294967295) = true := by decide
  have t5 : (((Wd.does 43 (BitVec.ofNat 32 4294967289) (BitVec.ofNat 32 2)).toNat : Int) == 4294967295) = true := by decide
  have t6 : (((Wd.does 38 (BitVec.ofNat 32 2147483648) (BitVec.ofNat 32 2147483648)).toNat : Int) == 1073741824) = true := by decide
  have t7 : (((Wd.does 27 (BitVec.ofNat 32 4294967295) (BitVec.ofNat 32 2)).toNat : Int) == 1) = true := by decide
  have t8 : (((Wd.does 34 (BitVec.ofNat 32 2147483648) (BitVec.ofNat 32 33)).toNat : Int) == 3221225472) = true := by decide
  go_enter Try.func9, Try.ntmps9
  go_wp2_with fail
  refine (do_at 18 1 2 (BitVec.ofNat 32 1) (BitVec.ofNat 32 2) rfl rfl _).mono ?_
  rintro e w' ⟨rfl, rfl⟩
  rw [t0]
  go_wp2_with fail
  refine (sign_at 4095 12 (BitVec.ofNat 32 4095) rfl _).mono ?_
  rintro e w1 ⟨rfl, k1, rfl⟩
  go_wp2_with fail
  refine (field_at 305419896 8 8 (BitVec.ofNat 32 305419896) rfl _).mono ?_
  rintro e w1 ⟨rfl, k2, rfl⟩
  go_wp2_with fail
  refine (put_at 0 4 4 171 (BitVec.ofNat 32 0) (BitVec.ofNat 32 171) rfl rfl _).mono ?_
  rintro e w1 ⟨rfl, k3, rfl⟩
  go_wp2_with fail
  refine (does_at 41 7 0 (BitVec.ofNat 32 7) (BitVec.ofNat 32 0) rfl rfl _).mono ?_
  rintro e w1 ⟨rfl, rfl⟩
  go_wp2_with fail
  refine (does_at 43 4294967289 2 (BitVec.ofNat 32 4294967289) (BitVec.ofNat 32 2) rfl rfl _).mono ?_
  rintro e w1 ⟨rfl, rfl⟩
  go_wp2_with fail
  refine (does_at 38 2147483648 2147483648 (BitVec.ofNat 32 2147483648) (BitVec.ofNat 32 2147483648) rfl rfl _).mono ?_
  rintro e w1 ⟨rfl, rfl⟩
  go_wp2_with fail
  refine (does_at 27 4294967295 2 (BitVec.ofNat 32 4294967295) (BitVec.ofNat 32 2) rfl rfl _).mono ?_
  rintro e w1 ⟨rfl, rfl⟩
  go_wp2_with fail
  refine (does_at 34 2147483648 33 (BitVec.ofNat 32 2147483648) (BitVec.ofNat 32 33) rfl rfl _).mono ?_
  rintro e w1 ⟨rfl, rfl⟩
  go_wp2_with fail
  go_ret
  exact ⟨rfl, _, rfl⟩
end Go.Proofs.Ytbjfkpmhcegimaa
