/-
  Contracts of package word (Field, Put, Sign): what each call answers, of whatever words; the world stays as it is but for draws.
-/
import Derived.Test.YtoiheamdnlaahaaRows
import Derived.Test.YtoiheamdnlaahaaM
import Derived.WalkKit
import Derived.WalkLawsBesides
import Derived.Deep.QuietTactic
import Derived.BigQuiet
namespace Go.Proofs.Ytoiheamdnlaahaa
open Go.RowKit

theorem ret_int {k : IntKind} {a b : Int} (h : a = b) : Ending.returned (.int k a) = .returned (.int k b) := by rw [h]
theorem ret_bool {a b : Bool} (h : a = b) : Ending.returned (.bool a) = .returned (.bool b) := by rw [h]
theorem ret_two {k l : IntKind} {a b c d : Int} (h : a = b) (h2 : c = d) : Ending.returned (.tuple #[.int k a, .int l c]) = .returned (.tuple #[.int k b, .int l d]) := by rw [h, h2]

theorem within_any (a n : Int) (w : World) : Calls Try.prog 45 #[.int .i64 a, .int .i64 n] w fun e w' => e = .returned (.bool (Wd.within a n)) ∧ w' = w := by
  go_enter Try.func45, Try.ntmps45
  go_wp2
  all_goals go_ret
  all_goals refine ⟨ret_bool ?_, rfl⟩
  all_goals unfold Wd.within
  all_goals first | (rw [decide_eq_decide]; omega) | (symm; rw [decide_eq_false_iff_not]; omega)

theorem mask_any (n : Int) (h0 : 0 ≤ n) (h1 : n ≤ 32) (w : World) : Calls Try.prog 46 #[.int .i64 n] w fun e w' => e = .returned (.int .u32 ((Wd.mask n.toNat).toNat : Int)) ∧ w' = w := by
  obtain ⟨m, rfl⟩ := Int.eq_ofNat_of_zero_le h0
  rw [Int.toNat_natCast]
  go_enter Try.func46, Try.ntmps46
  go_wp2
  go_loop [3, 5] (fun t i => ∃ k : Nat, k ≤ m ∧ i = .int .i64 k ∧ t = .int .u32 ((Wd.mask k).toNat : Int)) (fun _ i => m - (intOf i).toNat)
  case atStart => exact ⟨0, Nat.zero_le _, rfl, rfl⟩
  case round =>
    obtain ⟨k, hk, rfl, rfl⟩ := hrel
    by_cases hlt : k < m
    · go_wp2
      go_round
      case rel => exact ⟨k + 1, by omega, by go_num, by rw [Wd.mask_step]⟩
      case measure => simp [intOf]; omega
    · go_wp2
      go_ret
      have e : k = m := by omega
      subst e
      exact ⟨rfl, rfl⟩

theorem field_any (x : BitVec 32) (a n : Int) (w : World) : Calls Try.prog 23 #[.int .u32 (x.toNat : Int), .int .i64 a, .int .i64 n] w fun e w' => e = .returned (.int .u32 ((Wd.field x a n).toNat : Int)) ∧ ∃ k, w' = w.drewN k := by
  by_cases h : Wd.within a n = true
  · have hb := of_decide_eq_true h
    obtain ⟨h1, h2, h3, h4, h5⟩ := hb
    go_enter Try.func23, Try.ntmps23
    go_wp2_with (go_at_call 45; refine (within_any _ _ _).mono ?_; rintro e w' ⟨rfl, rfl⟩)
    go_quiet ((go_at_call 46; exact Calls.quiet_of_same (mask_any n (by omega) (by omega) _)))
    go_wp2
    go_ret
    exact ⟨ret_int (by unfold Wd.field; rw [if_pos h, Wd.shr_, Wd.and_]), _, rfl⟩
  · have h' : Wd.within a n = false := by simpa using h
    clear h
    go_enter Try.func23, Try.ntmps23
    go_wp2_with (go_at_call 45; refine (within_any _ _ _).mono ?_; rintro e w' ⟨rfl, rfl⟩)
    go_ret
    exact ⟨ret_int (by unfold Wd.field; rw [if_neg (by simp [h'])]; rfl), 0, rfl⟩

theorem put_any (x : BitVec 32) (a n : Int) (v : BitVec 32) (w : World) : Calls Try.prog 28 #[.int .u32 (x.toNat : Int), .int .i64 a, .int .i64 n, .int .u32 (v.toNat : Int)] w fun e w' => e = .returned (.int .u32 ((Wd.put x a n v).toNat : Int)) ∧ ∃ k, w' = w.drewN k := by
  by_cases h : Wd.within a n = true
  · have hb := of_decide_eq_true h
    obtain ⟨h1, h2, h3, h4, h5⟩ := hb
    go_enter Try.func28, Try.ntmps28
    go_wp2_with (first | (go_at_call 45; refine (within_any _ _ _).mono ?_; rintro e w' ⟨rfl, rfl⟩) | (go_at_call 46; refine (mask_any n (by omega) (by omega) _).mono ?_; rintro e w' ⟨rfl, rfl⟩))
    go_quiet (fail)
    go_wp2
    go_ret
    exact ⟨ret_int (by unfold Wd.put; rw [if_pos h, Wd.shl_, Wd.andNot_, Wd.and_, Wd.shl_, Wd.or_]), _, rfl⟩
  · have h' : Wd.within a n = false := by simpa using h
    clear h
    go_enter Try.func28, Try.ntmps28
    go_wp2_with (go_at_call 45; refine (within_any _ _ _).mono ?_; rintro e w' ⟨rfl, rfl⟩)
    go_ret
    exact ⟨ret_int (by unfold Wd.put; rw [if_neg (by simp [h'])]), 0, rfl⟩

theorem sign_any (x : BitVec 32) (n : Int) (w : World) : Calls Try.prog 43 #[.int .u32 (x.toNat : Int), .int .i64 n] w fun e w' => e = .returned (.int .u32 ((Wd.sign x n).toNat : Int)) ∧ ∃ k, w' = w.drewN k := by
  by_cases h1 : 1 ≤ n
  · by_cases h2 : n ≤ 31
    · by_cases hb : x.getLsbD (n.toNat - 1) = true
      · have hf : (((Wd.field x (n - 1) 1).toNat : Int) == 1) = true := by rw [Wd.field_bit x n h1 h2, hb]; rfl
        have H : Hid (x.getLsbD (n.toNat - 1) = true) := hb
        clear hb
        go_enter Try.func43, Try.ntmps43
        go_wp2_with fail
        refine (field_any _ _ _ _).mono ?_
        rintro e w' ⟨rfl, k, rfl⟩
        go_wp2_with fail
        refine (mask_any n (by omega) (by omega) _).mono ?_
        rintro e w' ⟨rfl, rfl⟩
        go_wp2_with fail
        go_ret
        exact ⟨ret_int (by unfold Wd.sign; rw [if_pos ⟨h1, h2⟩, if_pos H.out, Wd.notm_, Wd.or_]), _, rfl⟩
      · have hb' : x.getLsbD (n.toNat - 1) = false := by simpa using hb
        have hf : (((Wd.field x (n - 1) 1).toNat : Int) == 1) = false := by rw [Wd.field_bit x n h1 h2, hb']; rfl
        have H : Hid (¬ x.getLsbD (n.toNat - 1) = true) := hb
        clear hb hb'
        go_enter Try.func43, Try.ntmps43
        go_wp2_with fail
        refine (field_any _ _ _ _).mono ?_
        rintro e w' ⟨rfl, k, rfl⟩
        go_wp2_with fail
        refine (mask_any n (by omega) (by omega) _).mono ?_
        rintro e w' ⟨rfl, rfl⟩
        go_wp2_with fail
        go_ret
        exact ⟨ret_int (by unfold Wd.sign; rw [if_pos ⟨h1, h2⟩, if_neg H.out, Wd.and_]), _, rfl⟩
    · go_enter Try.func43, Try.ntmps43
      go_wp2
      go_ret
      exact ⟨ret_int (by unfold Wd.sign; rw [if_neg (by omega)]), 0, rfl⟩
  · go_enter Try.func43, Try.ntmps43
    go_wp2
    go_ret
    exact ⟨ret_int (by unfold Wd.sign; rw [if_neg (by omega)]), 0, rfl⟩

theorem sign_at (a n : Int) (x : BitVec 32) (ha : a = (x.toNat : Int)) (w : World) : Calls Try.prog 43 #[.int .u32 a, .int .i64 n] w fun e w' => e = .returned (.int .u32 ((Wd.sign x n).toNat : Int)) ∧ ∃ k, w' = w.drewN k := by
  subst ha; exact sign_any x n w
theorem field_at (c a n : Int) (x : BitVec 32) (hc : c = (x.toNat : Int)) (w : World) : Calls Try.prog 23 #[.int .u32 c, .int .i64 a, .int .i64 n] w fun e w' => e = .returned (.int .u32 ((Wd.field x a n).toNat : Int)) ∧ ∃ k, w' = w.drewN k := by
  subst hc; exact field_any x a n w
theorem put_at (c a n d : Int) (x v : BitVec 32) (hc : c = (x.toNat : Int)) (hd : d = (v.toNat : Int)) (w : World) : Calls Try.prog 28 #[.int .u32 c, .int .i64 a, .int .i64 n, .int .u32 d] w fun e w' => e = .returned (.int .u32 ((Wd.put x a n v).toNat : Int)) ∧ ∃ k, w' = w.drewN k := by
  subst hc hd; exact put_any x a n v w
end Go.Proofs.Ytoiheamdnlaahaa
