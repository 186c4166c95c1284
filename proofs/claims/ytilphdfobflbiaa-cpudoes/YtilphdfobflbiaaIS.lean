/-
  Contracts of package inst's small functions: what each call answers; what was in memory stays.
-/
import Derived.Test.YtilphdfobflbiaaIK
namespace Go.Proofs.Ytilphdfobflbiaa
open Go.RowKit Ip

theorem fits_any (r : Int) (b : Bool) (w : World) : Calls Try.prog 47 #[.int .i64 r, .bool b] w fun e w' => e = .returned (.bool (fit r b)) ∧ w' = w := by
  cases b
  · go_enter Try.func47, Try.ntmps47
    go_wp2
    go_ret
    exact ⟨ret_bool (by unfold fit; rw [if_neg (by decide)]; rfl), rfl⟩
  · go_enter Try.func47, Try.ntmps47
    go_wp2
    all_goals go_ret
    all_goals refine ⟨ret_bool ?_, rfl⟩
    all_goals unfold fit
    all_goals rw [if_pos rfl]
    all_goals first | (rw [decide_eq_decide]; omega) | (symm; rw [decide_eq_false_iff_not]; omega)

theorem has_any (f : Nat) (h : is8 f) (w : World) : Calls Try.prog 46 #[.int .u8 (f : Int)] w fun e w' => e = .returned (.agg #[.bool (hRd f), .bool (hRs1 f), .bool (hRs2 f)]) ∧ Below w.heap.size w w' := by
  rcases h with rfl | rfl | rfl | rfl | rfl | rfl | rfl | rfl
  all_goals
    go_enter Try.func46, Try.ntmps46
    go_wp2
    exact bodyPost_ret (by simp [results, Try.results46, go_sem]; decide) rfl ⟨rfl, (Below.refl _ _).alloc (Nat.le_refl _) _⟩

theorem span_any (f : Nat) (h : is8 f) (w : World) : Calls Try.prog 48 #[.int .u8 (f : Int)] w fun e w' => e = .returned (.agg #[.int .i64 (lo f), .int .i64 (hi f), .int .i64 (st f)]) ∧ Below w.heap.size w w' := by
  rcases h with rfl | rfl | rfl | rfl | rfl | rfl | rfl | rfl
  all_goals
    go_enter Try.func48, Try.ntmps48
    go_wp2
    exact bodyPost_ret (by simp [results, Try.results48, go_sem]; decide) rfl ⟨rfl, (Below.refl _ _).alloc (Nat.le_refl _) _⟩

theorem signedBits_any (f : Nat) (h : is8 f) (w : World) : Calls Try.prog 93 #[.int .u8 (f : Int)] w fun e w' => e = .returned (.int .i64 (sb f)) ∧ w' = w := by
  rcases h with rfl | rfl | rfl | rfl | rfl | rfl | rfl | rfl
  all_goals
    go_enter Try.func93, Try.ntmps93
    go_wp2
    go_ret
    exact ⟨rfl, rfl⟩

theorem holds_any (a b c n : Int) (hc : 1 ≤ c) (w : World) : Calls Try.prog 49 #[.agg #[.int .i64 a, .int .i64 b, .int .i64 c], .int .i64 n] w fun e w' => e = .returned (.bool (inSpan a b c n)) ∧ Below w.heap.size w w' := by
  by_cases h1 : a ≤ n
  · by_cases h2 : n ≤ b
    · go_enter Try.func49, Try.ntmps49
      go_wp2
      go_ret
      exact ⟨ret_bool (by unfold inSpan; rw [Bool.eq_iff_iff, beq_iff_eq, decide_eq_true_eq, ← Int.dvd_iff_tmod_eq_zero, Int.dvd_iff_emod_eq_zero]; exact ⟨fun h => ⟨h1, h2, h⟩, fun h => h.2.2⟩), (Below.refl _ _).alloc (Nat.le_refl _) _⟩
    · go_enter Try.func49, Try.ntmps49
      go_wp2
      go_ret
      exact ⟨ret_bool (by unfold inSpan; symm; rw [decide_eq_false_iff_not]; omega), (Below.refl _ _).alloc (Nat.le_refl _) _⟩
  · go_enter Try.func49, Try.ntmps49
    go_wp2
    go_ret
    exact ⟨ret_bool (by unfold inSpan; symm; rw [decide_eq_false_iff_not]; omega), (Below.refl _ _).alloc (Nat.le_refl _) _⟩

end Go.Proofs.Ytilphdfobflbiaa
