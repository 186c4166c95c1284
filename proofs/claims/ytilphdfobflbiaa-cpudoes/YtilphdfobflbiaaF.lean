/-
  Contracts of the statements' own helpers 'does' and 'fixed': the first answers what a reckoning comes to, the second true; the world stays as it is but for draws.
-/
import Derived.Test.YtilphdfobflbiaaD
import Derived.Deep.QuietTactic
import Derived.BigQuiet
namespace Go.Proofs.Ytilphdfobflbiaa
open Go.RowKit

theorem do_at (op a b : Int) (x y : BitVec 32) (ha : a = (x.toNat : Int)) (hb : b = (y.toNat : Int)) (w : World) : Calls Try.prog 51 #[.int .i64 op, .int .u32 a, .int .u32 b] w fun e w' => e = .returned (.tuple #[.int .u32 ((Wd.run op x y).toNat : Int), .int .i64 (Wd.err op)]) ∧ w' = w := by
  subst ha hb; exact do_any op x y w
theorem sign_at (a n : Int) (x : BitVec 32) (ha : a = (x.toNat : Int)) (w : World) : Calls Try.prog 92 #[.int .u32 a, .int .i64 n] w fun e w' => e = .returned (.int .u32 ((Wd.sign x n).toNat : Int)) ∧ ∃ k, w' = w.drewN k := by
  subst ha; exact sign_any x n w
theorem field_at (c a n : Int) (x : BitVec 32) (hc : c = (x.toNat : Int)) (w : World) : Calls Try.prog 70 #[.int .u32 c, .int .i64 a, .int .i64 n] w fun e w' => e = .returned (.int .u32 ((Wd.field x a n).toNat : Int)) ∧ ∃ k, w' = w.drewN k := by
  subst hc; exact field_any x a n w
theorem put_at (c a n d : Int) (x v : BitVec 32) (hc : c = (x.toNat : Int)) (hd : d = (v.toNat : Int)) (w : World) : Calls Try.prog 91 #[.int .u32 c, .int .i64 a, .int .i64 n, .int .u32 d] w fun e w' => e = .returned (.int .u32 ((Wd.put x a n v).toNat : Int)) ∧ ∃ k, w' = w.drewN k := by
  subst hc hd; exact put_any x a n v w

end Go.Proofs.Ytilphdfobflbiaa
