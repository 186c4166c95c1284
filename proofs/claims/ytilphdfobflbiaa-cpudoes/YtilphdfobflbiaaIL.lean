/-
  Contracts of package inst's Encode, Decode and Plain, as the laws meet them; and of the statements' own helper 'fixed'.
-/
import Derived.Test.YtilphdfobflbiaaIN
import Derived.Test.YtilphdfobflbiaaIZ
import Derived.Laws.StructEq
namespace Go.Proofs.Ytilphdfobflbiaa
open Go.RowKit Ip

theorem decode_kind (x : BitVec 32) (k : Nat) (hk : k < 47) (h : asked x k = true) (w : World) :
    Calls Try.prog 35 #[.int .u32 (x.toNat : Int)] w fun e w' => e = .returned (.tuple #[.agg #[.int .i64 (k : Int), .int .i64 (regIf (hRd (kf k)) x 7), .int .i64 (regIf (hRs1 (kf k)) x 15), .int .i64 (regIf (hRs2 (kf k)) x 20), .int .i64 (number x (kf k))], .int .i64 0]) ∧ Below w.heap.size w w' := by
  refine decode_yes x k hk (fun j hj => ?_) h w
  show asked x j = false
  cases e : asked x j with
  | false => rfl
  | true => exact absurd (asked_one x j k (by omega) hk e h) (by omega)
theorem decode_none (x : BitVec 32) (h : ∀ k, k < 47 → asked x k = false) (w : World) : Calls Try.prog 35 #[.int .u32 (x.toNat : Int)] w fun e w' => e = .returned (.tuple #[.agg #[.int .i64 0, .int .i64 0, .int .i64 0, .int .i64 0, .int .i64 0], .int .i64 20]) ∧ Below w.heap.size w w' :=
  decode_no x h w
theorem kind_or (x : BitVec 32) : (∃ k, k < 47 ∧ asked x k = true) ∨ ∀ k, k < 47 → asked x k = false := by
  by_cases h : ∃ k, k < 47 ∧ asked x k = true
  · exact .inl h
  · refine .inr fun k hk => ?_
    cases e : asked x k with
    | false => rfl
    | true => exact absurd ⟨k, hk, e⟩ h

def plainV (op : Int) : Int := if op = 18 then 27 else if op = 19 then 30 else if op = 20 then 31 else if op = 21 then 32 else if op = 22 then 35 else if op = 23 then 36 else if op = 24 then 29 else if op = 25 then 33 else if op = 26 then 34 else 0
def plainB (op : Int) : Bool := decide (18 ≤ op ∧ op ≤ 26)
theorem ret_ib2 {k : IntKind} {a b : Int} {c d : Bool} (h : a = b) (h2 : c = d) : Ending.returned (.tuple #[.int k a, .bool c]) = .returned (.tuple #[.int k b, .bool d]) := by rw [h, h2]
theorem plain_any (op : Int) (w : World) : Calls Try.prog 52 #[.int .i64 op] w fun e w' => e = .returned (.tuple #[.int .i64 (plainV op), .bool (plainB op)]) ∧ w' = w := by
  by_cases h : 18 ≤ op ∧ op ≤ 26
  · have e : op = 18 ∨ op = 19 ∨ op = 20 ∨ op = 21 ∨ op = 22 ∨ op = 23 ∨ op = 24 ∨ op = 25 ∨ op = 26 := by omega
    clear h
    rcases e with rfl | rfl | rfl | rfl | rfl | rfl | rfl | rfl | rfl
    all_goals
      go_enter Try.func52, Try.ntmps52
      go_wp2
      go_ret2
      exact ⟨rfl, rfl⟩
  · have e : plainV op = 0 := by unfold plainV; repeat rw [if_neg (by omega)]
    have e2 : plainB op = false := by unfold plainB; exact decide_eq_false h
    have H : Hid (plainV op = 0) := e
    have H2 : Hid (plainB op = false) := e2
    have n1 : (op == 18) = false := by rw [beq_eq_false_iff_ne]; omega
    have n2 : (op == 19) = false := by rw [beq_eq_false_iff_ne]; omega
    have n3 : (op == 20) = false := by rw [beq_eq_false_iff_ne]; omega
    have n4 : (op == 21) = false := by rw [beq_eq_false_iff_ne]; omega
    have n5 : (op == 22) = false := by rw [beq_eq_false_iff_ne]; omega
    have n6 : (op == 23) = false := by rw [beq_eq_false_iff_ne]; omega
    have n7 : (op == 24) = false := by rw [beq_eq_false_iff_ne]; omega
    have n8 : (op == 25) = false := by rw [beq_eq_false_iff_ne]; omega
    have n9 : (op == 26) = false := by rw [beq_eq_false_iff_ne]; omega
    clear e e2 h
    go_enter Try.func52, Try.ntmps52
    go_wp2
    go_ret2
    exact ⟨ret_ib2 H.out.symm H2.out.symm, rfl⟩

def sameX (a b c d e a' b' c' d' e' : Int) : Bool := decide (a = a' ∧ b = b' ∧ c = c' ∧ d = d' ∧ e = e')
set_option maxHeartbeats 1000000 in
theorem eqlX (a b c d e a' b' c' d' e' : Int) (w : World) : (binOp .eql 27 (.agg #[.int .i64 a, .int .i64 b, .int .i64 c, .int .i64 d, .int .i64 e]) (.agg #[.int .i64 a', .int .i64 b', .int .i64 c', .int .i64 d', .int .i64 e'])).run Try.prog w = .ok (.bool (sameX a b c d e a' b' c' d' e')) w := by
  by_cases h1 : a = a' <;> by_cases h2 : b = b' <;> by_cases h3 : c = c' <;> by_cases h4 : d = d' <;> by_cases h5 : e = e' <;> simp [go_sem, sameX, h1, h2, h3, h4, h5]
set_option maxHeartbeats 1000000 in
theorem neqX (a b c d e a' b' c' d' e' : Int) (w : World) : (binOp .neq 27 (.agg #[.int .i64 a, .int .i64 b, .int .i64 c, .int .i64 d, .int .i64 e]) (.agg #[.int .i64 a', .int .i64 b', .int .i64 c', .int .i64 d', .int .i64 e'])).run Try.prog w = .ok (.bool (!sameX a b c d e a' b' c' d' e')) w := by
  by_cases h1 : a = a' <;> by_cases h2 : b = b' <;> by_cases h3 : c = c' <;> by_cases h4 : d = d' <;> by_cases h5 : e = e' <;> simp [go_sem, sameX, h1, h2, h3, h4, h5]
end Go.Proofs.Ytilphdfobflbiaa
