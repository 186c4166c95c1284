/-
  Contracts of package word's functions: what each call answers, of whatever words; the world stays as it is.
-/
import Derived.Test.YtilphdfobflbiaaRows
import Derived.Test.YtilphdfobflbiaaM
import Derived.WalkKit
import Derived.WalkLawsBesides
namespace Go.Proofs.Ytilphdfobflbiaa
open Go.RowKit

theorem ret_int {k : IntKind} {a b : Int} (h : a = b) : Ending.returned (.int k a) = .returned (.int k b) := by rw [h]
theorem ret_bool {a b : Bool} (h : a = b) : Ending.returned (.bool a) = .returned (.bool b) := by rw [h]
theorem ret_two {k l : IntKind} {a b c d : Int} (h : a = b) (h2 : c = d) : Ending.returned (.tuple #[.int k a, .int l c]) = .returned (.tuple #[.int k b, .int l d]) := by rw [h, h2]

theorem within_any (a n : Int) (w : World) : Calls Try.prog 94 #[.int .i64 a, .int .i64 n] w fun e w' => e = .returned (.bool (Wd.within a n)) ∧ w' = w := by
  go_enter Try.func94, Try.ntmps94
  go_wp2
  all_goals go_ret
  all_goals refine ⟨ret_bool ?_, rfl⟩
  all_goals unfold Wd.within
  all_goals first | (rw [decide_eq_decide]; omega) | (symm; rw [decide_eq_false_iff_not]; omega)

theorem mask_any (n : Int) (h0 : 0 ≤ n) (h1 : n ≤ 32) (w : World) : Calls Try.prog 95 #[.int .i64 n] w fun e w' => e = .returned (.int .u32 ((Wd.mask n.toNat).toNat : Int)) ∧ w' = w := by
  obtain ⟨m, rfl⟩ := Int.eq_ofNat_of_zero_le h0
  rw [Int.toNat_natCast]
  go_enter Try.func95, Try.ntmps95
  go_wp2
  go_loop [3, 5] (fun t i => ∃ k : Nat, k ≤ m ∧ i = .int .i64 k ∧ t = .int .u32 ((Wd.mask k).toNat : Int)) (fun _ i => m - (intOf i).toNat)
  case atStart => exact ⟨0, Nat.zero_le _, rfl, rfl⟩
  case round =>
    obtain ⟨k, hk, rfl, rfl⟩ := hrel
    by_cases hlt : k < m
    · go_wp2
      go_round
      case rel => exact ⟨k + 1, by omega, by go_num, by rw [Wd.mask_step]⟩
      case measure => simp [intOf]; omega
    · go_wp2
      go_ret
      have e : k = m := by omega
      subst e
      exact ⟨rfl, rfl⟩

theorem shift_any (b : BitVec 32) (w : World) : Calls Try.prog 76 #[.int .u32 (b.toNat : Int)] w fun e w' => e = .returned (.int .u32 (Wd.sh b : Int)) ∧ w' = w := by
  go_enter Try.func76, Try.ntmps76
  go_wp2
  go_ret
  exact ⟨ret_int (Wd.and31 b), rfl⟩

theorem one_any (p : Bool) (w : World) : Calls Try.prog 77 #[.bool p] w fun e w' => e = .returned (.int .u32 ((Wd.one p).toNat : Int)) ∧ w' = w := by
  cases p
  all_goals go_enter Try.func77, Try.ntmps77
  all_goals go_wp2
  all_goals go_ret
  all_goals exact ⟨rfl, rfl⟩

theorem signed_any (b : BitVec 32) (w : World) : Calls Try.prog 79 #[.int .u32 (b.toNat : Int)] w fun e w' => e = .returned (.int .i64 b.toInt) ∧ w' = w := by
  have h1 := Wd.toInt_lo b
  have h2 := Wd.toInt_hi b
  go_enter Try.func79, Try.ntmps79
  go_wp2
  go_ret
  exact ⟨ret_int (by rw [Wd.toInt_, IntWalk.wrap64_in _ (by omega)]), rfl⟩

theorem high_any (p : Int) (w : World) : Calls Try.prog 78 #[.int .i64 p] w fun e w' => e = .returned (.int .u32 ((Wd.hi p).toNat : Int)) ∧ w' = w := by
  go_enter Try.func78, Try.ntmps78
  go_wp2
  go_ret
  exact ⟨ret_int (Wd.hi_ _), rfl⟩

theorem quotu_any (a b : BitVec 32) (w : World) : Calls Try.prog 81 #[.int .u32 (a.toNat : Int), .int .u32 (b.toNat : Int)] w fun e w' => e = .returned (.int .u32 ((Wd.quotu a b).toNat : Int)) ∧ w' = w := by
  have ha := Wd.lt a
  have hb := Wd.lt b
  by_cases h : ((b.toNat : Int) == 0) = true
  · have e := Wd.eq0 b h
    go_enter Try.func81, Try.ntmps81
    go_wp2
    go_ret
    exact ⟨ret_int (by unfold Wd.quotu; rw [if_pos e]; rfl), rfl⟩
  · have h' : ((b.toNat : Int) == 0) = false := by simpa using h
    have e := Wd.ne0 b h'
    have hp : (1 : Int) ≤ b.toNat := by
      have : (b.toNat : Int) ≠ 0 := by simpa using h'
      omega
    clear h
    go_enter Try.func81, Try.ntmps81
    go_wp2
    go_ret
    exact ⟨ret_int (by unfold Wd.quotu; rw [if_neg e, Wd.divu_]; exact Int.emod_eq_of_lt (Wd.ge _) (Wd.lt _)), rfl⟩

theorem restu_any (a b : BitVec 32) (w : World) : Calls Try.prog 83 #[.int .u32 (a.toNat : Int), .int .u32 (b.toNat : Int)] w fun e w' => e = .returned (.int .u32 ((Wd.restu a b).toNat : Int)) ∧ w' = w := by
  have ha := Wd.lt a
  have hb := Wd.lt b
  by_cases h : ((b.toNat : Int) == 0) = true
  · have e := Wd.eq0 b h
    go_enter Try.func83, Try.ntmps83
    go_wp2
    go_ret
    exact ⟨ret_int (by unfold Wd.restu; rw [if_pos e]), rfl⟩
  · have h' : ((b.toNat : Int) == 0) = false := by simpa using h
    have e := Wd.ne0 b h'
    have hp : (1 : Int) ≤ b.toNat := by
      have : (b.toNat : Int) ≠ 0 := by simpa using h'
      omega
    clear h
    go_enter Try.func83, Try.ntmps83
    go_wp2
    go_ret
    exact ⟨ret_int (by unfold Wd.restu; rw [if_neg e]; exact Wd.modu_ a b), rfl⟩

theorem quot_any (a b : BitVec 32) (w : World) : Calls Try.prog 80 #[.int .u32 (a.toNat : Int), .int .u32 (b.toNat : Int)] w fun e w' => e = .returned (.int .u32 ((Wd.quot a b).toNat : Int)) ∧ w' = w := by
  by_cases h : ((b.toNat : Int) == 0) = true
  · have e := Wd.eq0 b h
    go_enter Try.func80, Try.ntmps80
    go_wp2
    go_ret
    exact ⟨ret_int (by unfold Wd.quot; rw [if_pos e]; rfl), rfl⟩
  · have h' : ((b.toNat : Int) == 0) = false := by simpa using h
    have e := Wd.ne0 b h'
    have hz := Wd.toInt_ne b e
    have hd := Wd.tdiv_in a b
    clear h
    go_enter Try.func80, Try.ntmps80
    go_wp2_with (go_at_call 79; refine (signed_any _ _).mono ?_; rintro e w' ⟨rfl, rfl⟩)
    go_ret
    exact ⟨ret_int (by unfold Wd.quot; rw [if_neg e]; first | exact Wd.cut_ _ | (rw [IntWalk.wrap64_in _ (by omega)]; exact Wd.cut_ _)), rfl⟩

theorem rest_any (a b : BitVec 32) (w : World) : Calls Try.prog 82 #[.int .u32 (a.toNat : Int), .int .u32 (b.toNat : Int)] w fun e w' => e = .returned (.int .u32 ((Wd.rest a b).toNat : Int)) ∧ w' = w := by
  by_cases h : ((b.toNat : Int) == 0) = true
  · have e := Wd.eq0 b h
    go_enter Try.func82, Try.ntmps82
    go_wp2
    go_ret
    exact ⟨ret_int (by unfold Wd.rest; rw [if_pos e]), rfl⟩
  · have h' : ((b.toNat : Int) == 0) = false := by simpa using h
    have e := Wd.ne0 b h'
    have hz := Wd.toInt_ne b e
    clear h
    go_enter Try.func82, Try.ntmps82
    go_wp2_with (go_at_call 79; refine (signed_any _ _).mono ?_; rintro e w' ⟨rfl, rfl⟩)
    go_ret
    exact ⟨ret_int (by unfold Wd.rest; rw [if_neg e]; exact Wd.cut_ _), rfl⟩
end Go.Proofs.Ytilphdfobflbiaa
