/-
  Contract of the statements' own helper 'fixed': it answers true; what was in memory stays.
-/
import Derived.Test.YtilphdfobflbiaaIL
namespace Go.Proofs.Ytilphdfobflbiaa
open Go.RowKit Ip

theorem dec_lit (w : World) : Calls Try.prog 35 #[.int .u32 4263546595] w fun e w' => e = .returned (.tuple #[.agg #[.int .i64 4, .int .i64 0, .int .i64 1, .int .i64 2, .int .i64 (-4)], .int .i64 0]) ∧ Below w.heap.size w w' := by
  have h := decode_kind (BitVec.ofNat 32 4263546595) 4 (by decide) (by decide +kernel) w
  have e1 : regIf (hRd (kf 4)) (BitVec.ofNat 32 4263546595) 7 = 0 := by decide +kernel
  have e2 : regIf (hRs1 (kf 4)) (BitVec.ofNat 32 4263546595) 15 = 1 := by decide +kernel
  have e3 : regIf (hRs2 (kf 4)) (BitVec.ofNat 32 4263546595) 20 = 2 := by decide +kernel
  have e4 : number (BitVec.ofNat 32 4263546595) (kf 4) = -4 := by decide +kernel
  rw [e1, e2, e3, e4] at h
  exact h
theorem dec_zero (w : World) : Calls Try.prog 35 #[.int .u32 0] w fun e w' => e = .returned (.tuple #[.agg #[.int .i64 0, .int .i64 0, .int .i64 0, .int .i64 0, .int .i64 0], .int .i64 20]) ∧ Below w.heap.size w w' :=
  decode_none (BitVec.ofNat 32 0) (by decide +kernel) w
theorem form_lit (op : Int) (v : Int) (h : ((frm op : Nat) : Int) = v) (w : World) : Calls Try.prog 45 #[.int .i64 op] w fun e w' => e = .returned (.int .u8 v) ∧ Below w.heap.size w w' := by
  subst h; exact form_any op w

end Go.Proofs.Ytilphdfobflbiaa
