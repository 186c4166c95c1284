/-
  Contracts of word.Do, word.Field, word.Sign and word.Put: what each call answers, of whatever arguments; the world stays as it is.
-/
import Derived.Test.YtilphdfobflbiaaW
import Derived.Deep.QuietTactic
import Derived.BigQuiet
namespace Go.Proofs.Ytilphdfobflbiaa
open Go.RowKit

theorem field_any (x : BitVec 32) (a n : Int) (w : World) : Calls Try.prog 70 #[.int .u32 (x.toNat : Int), .int .i64 a, .int .i64 n] w fun e w' => e = .returned (.int .u32 ((Wd.field x a n).toNat : Int)) ∧ ∃ k, w' = w.drewN k := by
  by_cases h : Wd.within a n = true
  · have hb := of_decide_eq_true h
    obtain ⟨h1, h2, h3, h4, h5⟩ := hb
    go_enter Try.func70, Try.ntmps70
    go_wp2_with (go_at_call 94; refine (within_any _ _ _).mono ?_; rintro e w' ⟨rfl, rfl⟩)
    go_quiet ((go_at_call 95; exact Calls.quiet_of_same (mask_any n (by omega) (by omega) _)))
    go_wp2
    go_ret
    exact ⟨ret_int (by unfold Wd.field; rw [if_pos h, Wd.shr_, Wd.and_]), _, rfl⟩
  · have h' : Wd.within a n = false := by simpa using h
    clear h
    go_enter Try.func70, Try.ntmps70
    go_wp2_with (go_at_call 94; refine (within_any _ _ _).mono ?_; rintro e w' ⟨rfl, rfl⟩)
    go_ret
    exact ⟨ret_int (by unfold Wd.field; rw [if_neg (by simp [h'])]; rfl), 0, rfl⟩

theorem put_any (x : BitVec 32) (a n : Int) (v : BitVec 32) (w : World) : Calls Try.prog 91 #[.int .u32 (x.toNat : Int), .int .i64 a, .int .i64 n, .int .u32 (v.toNat : Int)] w fun e w' => e = .returned (.int .u32 ((Wd.put x a n v).toNat : Int)) ∧ ∃ k, w' = w.drewN k := by
  by_cases h : Wd.within a n = true
  · have hb := of_decide_eq_true h
    obtain ⟨h1, h2, h3, h4, h5⟩ := hb
    go_enter Try.func91, Try.ntmps91
    go_wp2_with (first | (go_at_call 94; refine (within_any _ _ _).mono ?_; rintro e w' ⟨rfl, rfl⟩) | (go_at_call 95; refine (mask_any n (by omega) (by omega) _).mono ?_; rintro e w' ⟨rfl, rfl⟩))
    go_quiet (fail)
    go_wp2
    go_ret
    exact ⟨ret_int (by unfold Wd.put; rw [if_pos h, Wd.shl_, Wd.andNot_, Wd.and_, Wd.shl_, Wd.or_]), _, rfl⟩
  · have h' : Wd.within a n = false := by simpa using h
    clear h
    go_enter Try.func91, Try.ntmps91
    go_wp2_with (go_at_call 94; refine (within_any _ _ _).mono ?_; rintro e w' ⟨rfl, rfl⟩)
    go_ret
    exact ⟨ret_int (by unfold Wd.put; rw [if_neg (by simp [h'])]), 0, rfl⟩

theorem sign_any (x : BitVec 32) (n : Int) (w : World) : Calls Try.prog 92 #[.int .u32 (x.toNat : Int), .int .i64 n] w fun e w' => e = .returned (.int .u32 ((Wd.sign x n).toNat : Int)) ∧ ∃ k, w' = w.drewN k := by
  by_cases h1 : 1 ≤ n
  · by_cases h2 : n ≤ 31
    · by_cases hb : x.getLsbD (n.toNat - 1) = true
      · have hf : (((Wd.field x (n - 1) 1).toNat : Int) == 1) = true := by rw [Wd.field_bit x n h1 h2, hb]; rfl
        have H : Hid (x.getLsbD (n.toNat - 1) = true) := hb
        clear hb
        go_enter Try.func92, Try.ntmps92
        go_wp2_with fail
        refine (field_any _ _ _ _).mono ?_
        rintro e w' ⟨rfl, k, rfl⟩
        go_wp2_with fail
        refine (mask_any n (by omega) (by omega) _).mono ?_
        rintro e w' ⟨rfl, rfl⟩
        go_wp2_with fail
        go_ret
        exact ⟨ret_int (by unfold Wd.sign; rw [if_pos ⟨h1, h2⟩, if_pos H.out, Wd.notm_, Wd.or_]), _, rfl⟩
      · have hb' : x.getLsbD (n.toNat - 1) = false := by simpa using hb
        have hf : (((Wd.field x (n - 1) 1).toNat : Int) == 1) = false := by rw [Wd.field_bit x n h1 h2, hb']; rfl
        have H : Hid (¬ x.getLsbD (n.toNat - 1) = true) := hb
        clear hb hb'
        go_enter Try.func92, Try.ntmps92
        go_wp2_with fail
        refine (field_any _ _ _ _).mono ?_
        rintro e w' ⟨rfl, k, rfl⟩
        go_wp2_with fail
        refine (mask_any n (by omega) (by omega) _).mono ?_
        rintro e w' ⟨rfl, rfl⟩
        go_wp2_with fail
        go_ret
        exact ⟨ret_int (by unfold Wd.sign; rw [if_pos ⟨h1, h2⟩, if_neg H.out, Wd.and_]), _, rfl⟩
    · go_enter Try.func92, Try.ntmps92
      go_wp2
      go_ret
      exact ⟨ret_int (by unfold Wd.sign; rw [if_neg (by omega)]), 0, rfl⟩
  · go_enter Try.func92, Try.ntmps92
    go_wp2
    go_ret
    exact ⟨ret_int (by unfold Wd.sign; rw [if_neg (by omega)]), 0, rfl⟩

theorem do_27 (x y : BitVec 32) (w : World) : Calls Try.prog 51 #[.int .i64 27, .int .u32 (x.toNat : Int), .int .u32 (y.toNat : Int)] w fun e w' => e = .returned (.tuple #[.int .u32 ((Wd.run 27 x y).toNat : Int), .int .i64 0]) ∧ w' = w := by
  have hs := Wd.sh_lt y
  have hx := Wd.lt x
  have hy := Wd.lt y
  have hx1 := Wd.toInt_lo x
  have hx2 := Wd.toInt_hi x
  go_enter Try.func51, Try.ntmps51
  go_wp2_with (first | (go_at_call 76; refine (shift_any _ _).mono ?_; rintro e w' ⟨rfl, rfl⟩) | (go_at_call 77; refine (one_any _ _).mono ?_; rintro e w' ⟨rfl, rfl⟩) | (go_at_call 78; refine (high_any _ _).mono ?_; rintro e w' ⟨rfl, rfl⟩) | (go_at_call 79; refine (signed_any _ _).mono ?_; rintro e w' ⟨rfl, rfl⟩) | (go_at_call 80; refine (quot_any _ _ _).mono ?_; rintro e w' ⟨rfl, rfl⟩) | (go_at_call 81; refine (quotu_any _ _ _).mono ?_; rintro e w' ⟨rfl, rfl⟩) | (go_at_call 82; refine (rest_any _ _ _).mono ?_; rintro e w' ⟨rfl, rfl⟩) | (go_at_call 83; refine (restu_any _ _ _).mono ?_; rintro e w' ⟨rfl, rfl⟩))
  go_ret2
  exact ⟨ret_two (Wd.add_ x y) rfl, rfl⟩

theorem do_28 (x y : BitVec 32) (w : World) : Calls Try.prog 51 #[.int .i64 28, .int .u32 (x.toNat : Int), .int .u32 (y.toNat : Int)] w fun e w' => e = .returned (.tuple #[.int .u32 ((Wd.run 28 x y).toNat : Int), .int .i64 0]) ∧ w' = w := by
  have hs := Wd.sh_lt y
  have hx := Wd.lt x
  have hy := Wd.lt y
  have hx1 := Wd.toInt_lo x
  have hx2 := Wd.toInt_hi x
  go_enter Try.func51, Try.ntmps51
  go_wp2_with (first | (go_at_call 76; refine (shift_any _ _).mono ?_; rintro e w' ⟨rfl, rfl⟩) | (go_at_call 77; refine (one_any _ _).mono ?_; rintro e w' ⟨rfl, rfl⟩) | (go_at_call 78; refine (high_any _ _).mono ?_; rintro e w' ⟨rfl, rfl⟩) | (go_at_call 79; refine (signed_any _ _).mono ?_; rintro e w' ⟨rfl, rfl⟩) | (go_at_call 80; refine (quot_any _ _ _).mono ?_; rintro e w' ⟨rfl, rfl⟩) | (go_at_call 81; refine (quotu_any _ _ _).mono ?_; rintro e w' ⟨rfl, rfl⟩) | (go_at_call 82; refine (rest_any _ _ _).mono ?_; rintro e w' ⟨rfl, rfl⟩) | (go_at_call 83; refine (restu_any _ _ _).mono ?_; rintro e w' ⟨rfl, rfl⟩))
  go_ret2
  exact ⟨ret_two (Wd.sub_ x y) rfl, rfl⟩

theorem do_29 (x y : BitVec 32) (w : World) : Calls Try.prog 51 #[.int .i64 29, .int .u32 (x.toNat : Int), .int .u32 (y.toNat : Int)] w fun e w' => e = .returned (.tuple #[.int .u32 ((Wd.run 29 x y).toNat : Int), .int .i64 0]) ∧ w' = w := by
  have hs := Wd.sh_lt y
  have hx := Wd.lt x
  have hy := Wd.lt y
  have hx1 := Wd.toInt_lo x
  have hx2 := Wd.toInt_hi x
  go_enter Try.func51, Try.ntmps51
  go_wp2_with (first | (go_at_call 76; refine (shift_any _ _).mono ?_; rintro e w' ⟨rfl, rfl⟩) | (go_at_call 77; refine (one_any _ _).mono ?_; rintro e w' ⟨rfl, rfl⟩) | (go_at_call 78; refine (high_any _ _).mono ?_; rintro e w' ⟨rfl, rfl⟩) | (go_at_call 79; refine (signed_any _ _).mono ?_; rintro e w' ⟨rfl, rfl⟩) | (go_at_call 80; refine (quot_any _ _ _).mono ?_; rintro e w' ⟨rfl, rfl⟩) | (go_at_call 81; refine (quotu_any _ _ _).mono ?_; rintro e w' ⟨rfl, rfl⟩) | (go_at_call 82; refine (rest_any _ _ _).mono ?_; rintro e w' ⟨rfl, rfl⟩) | (go_at_call 83; refine (restu_any _ _ _).mono ?_; rintro e w' ⟨rfl, rfl⟩))
  go_ret2
  exact ⟨ret_two (Wd.shl_ x (Wd.sh y)) rfl, rfl⟩

theorem do_30 (x y : BitVec 32) (w : World) : Calls Try.prog 51 #[.int .i64 30, .int .u32 (x.toNat : Int), .int .u32 (y.toNat : Int)] w fun e w' => e = .returned (.tuple #[.int .u32 ((Wd.run 30 x y).toNat : Int), .int .i64 0]) ∧ w' = w := by
  have hs := Wd.sh_lt y
  have hx := Wd.lt x
  have hy := Wd.lt y
  have hx1 := Wd.toInt_lo x
  have hx2 := Wd.toInt_hi x
  go_enter Try.func51, Try.ntmps51
  go_wp2_with (first | (go_at_call 76; refine (shift_any _ _).mono ?_; rintro e w' ⟨rfl, rfl⟩) | (go_at_call 77; refine (one_any _ _).mono ?_; rintro e w' ⟨rfl, rfl⟩) | (go_at_call 78; refine (high_any _ _).mono ?_; rintro e w' ⟨rfl, rfl⟩) | (go_at_call 79; refine (signed_any _ _).mono ?_; rintro e w' ⟨rfl, rfl⟩) | (go_at_call 80; refine (quot_any _ _ _).mono ?_; rintro e w' ⟨rfl, rfl⟩) | (go_at_call 81; refine (quotu_any _ _ _).mono ?_; rintro e w' ⟨rfl, rfl⟩) | (go_at_call 82; refine (rest_any _ _ _).mono ?_; rintro e w' ⟨rfl, rfl⟩) | (go_at_call 83; refine (restu_any _ _ _).mono ?_; rintro e w' ⟨rfl, rfl⟩))
  go_ret2
  exact ⟨ret_two (by rw [Wd.toInt_, Wd.toInt_]; rfl) rfl, rfl⟩

theorem do_31 (x y : BitVec 32) (w : World) : Calls Try.prog 51 #[.int .i64 31, .int .u32 (x.toNat : Int), .int .u32 (y.toNat : Int)] w fun e w' => e = .returned (.tuple #[.int .u32 ((Wd.run 31 x y).toNat : Int), .int .i64 0]) ∧ w' = w := by
  have hs := Wd.sh_lt y
  have hx := Wd.lt x
  have hy := Wd.lt y
  have hx1 := Wd.toInt_lo x
  have hx2 := Wd.toInt_hi x
  go_enter Try.func51, Try.ntmps51
  go_wp2_with (first | (go_at_call 76; refine (shift_any _ _).mono ?_; rintro e w' ⟨rfl, rfl⟩) | (go_at_call 77; refine (one_any _ _).mono ?_; rintro e w' ⟨rfl, rfl⟩) | (go_at_call 78; refine (high_any _ _).mono ?_; rintro e w' ⟨rfl, rfl⟩) | (go_at_call 79; refine (signed_any _ _).mono ?_; rintro e w' ⟨rfl, rfl⟩) | (go_at_call 80; refine (quot_any _ _ _).mono ?_; rintro e w' ⟨rfl, rfl⟩) | (go_at_call 81; refine (quotu_any _ _ _).mono ?_; rintro e w' ⟨rfl, rfl⟩) | (go_at_call 82; refine (rest_any _ _ _).mono ?_; rintro e w' ⟨rfl, rfl⟩) | (go_at_call 83; refine (restu_any _ _ _).mono ?_; rintro e w' ⟨rfl, rfl⟩))
  go_ret2
  exact ⟨ret_two rfl rfl, rfl⟩

theorem do_32 (x y : BitVec 32) (w : World) : Calls Try.prog 51 #[.int .i64 32, .int .u32 (x.toNat : Int), .int .u32 (y.toNat : Int)] w fun e w' => e = .returned (.tuple #[.int .u32 ((Wd.run 32 x y).toNat : Int), .int .i64 0]) ∧ w' = w := by
  have hs := Wd.sh_lt y
  have hx := Wd.lt x
  have hy := Wd.lt y
  have hx1 := Wd.toInt_lo x
  have hx2 := Wd.toInt_hi x
  go_enter Try.func51, Try.ntmps51
  go_wp2_with (first | (go_at_call 76; refine (shift_any _ _).mono ?_; rintro e w' ⟨rfl, rfl⟩) | (go_at_call 77; refine (one_any _ _).mono ?_; rintro e w' ⟨rfl, rfl⟩) | (go_at_call 78; refine (high_any _ _).mono ?_; rintro e w' ⟨rfl, rfl⟩) | (go_at_call 79; refine (signed_any _ _).mono ?_; rintro e w' ⟨rfl, rfl⟩) | (go_at_call 80; refine (quot_any _ _ _).mono ?_; rintro e w' ⟨rfl, rfl⟩) | (go_at_call 81; refine (quotu_any _ _ _).mono ?_; rintro e w' ⟨rfl, rfl⟩) | (go_at_call 82; refine (rest_any _ _ _).mono ?_; rintro e w' ⟨rfl, rfl⟩) | (go_at_call 83; refine (restu_any _ _ _).mono ?_; rintro e w' ⟨rfl, rfl⟩))
  go_ret2
  exact ⟨ret_two (Wd.xor_ x y) rfl, rfl⟩

theorem do_33 (x y : BitVec 32) (w : World) : Calls Try.prog 51 #[.int .i64 33, .int .u32 (x.toNat : Int), .int .u32 (y.toNat : Int)] w fun e w' => e = .returned (.tuple #[.int .u32 ((Wd.run 33 x y).toNat : Int), .int .i64 0]) ∧ w' = w := by
  have hs := Wd.sh_lt y
  have hx := Wd.lt x
  have hy := Wd.lt y
  have hx1 := Wd.toInt_lo x
  have hx2 := Wd.toInt_hi x
  go_enter Try.func51, Try.ntmps51
  go_wp2_with (first | (go_at_call 76; refine (shift_any _ _).mono ?_; rintro e w' ⟨rfl, rfl⟩) | (go_at_call 77; refine (one_any _ _).mono ?_; rintro e w' ⟨rfl, rfl⟩) | (go_at_call 78; refine (high_any _ _).mono ?_; rintro e w' ⟨rfl, rfl⟩) | (go_at_call 79; refine (signed_any _ _).mono ?_; rintro e w' ⟨rfl, rfl⟩) | (go_at_call 80; refine (quot_any _ _ _).mono ?_; rintro e w' ⟨rfl, rfl⟩) | (go_at_call 81; refine (quotu_any _ _ _).mono ?_; rintro e w' ⟨rfl, rfl⟩) | (go_at_call 82; refine (rest_any _ _ _).mono ?_; rintro e w' ⟨rfl, rfl⟩) | (go_at_call 83; refine (restu_any _ _ _).mono ?_; rintro e w' ⟨rfl, rfl⟩))
  go_ret2
  exact ⟨ret_two (Wd.shr_ x (Wd.sh y)) rfl, rfl⟩

theorem do_34 (x y : BitVec 32) (w : World) : Calls Try.prog 51 #[.int .i64 34, .int .u32 (x.toNat : Int), .int .u32 (y.toNat : Int)] w fun e w' => e = .returned (.tuple #[.int .u32 ((Wd.run 34 x y).toNat : Int), .int .i64 0]) ∧ w' = w := by
  have hs := Wd.sh_lt y
  have hx := Wd.lt x
  have hy := Wd.lt y
  have hx1 := Wd.toInt_lo x
  have hx2 := Wd.toInt_hi x
  go_enter Try.func51, Try.ntmps51
  go_wp2_with (first | (go_at_call 76; refine (shift_any _ _).mono ?_; rintro e w' ⟨rfl, rfl⟩) | (go_at_call 77; refine (one_any _ _).mono ?_; rintro e w' ⟨rfl, rfl⟩) | (go_at_call 78; refine (high_any _ _).mono ?_; rintro e w' ⟨rfl, rfl⟩) | (go_at_call 79; refine (signed_any _ _).mono ?_; rintro e w' ⟨rfl, rfl⟩) | (go_at_call 80; refine (quot_any _ _ _).mono ?_; rintro e w' ⟨rfl, rfl⟩) | (go_at_call 81; refine (quotu_any _ _ _).mono ?_; rintro e w' ⟨rfl, rfl⟩) | (go_at_call 82; refine (rest_any _ _ _).mono ?_; rintro e w' ⟨rfl, rfl⟩) | (go_at_call 83; refine (restu_any _ _ _).mono ?_; rintro e w' ⟨rfl, rfl⟩))
  go_ret2
  exact ⟨ret_two (by rw [Wd.toInt_]; exact Wd.sar_ _ _) rfl, rfl⟩

theorem do_35 (x y : BitVec 32) (w : World) : Calls Try.prog 51 #[.int .i64 35, .int .u32 (x.toNat : Int), .int .u32 (y.toNat : Int)] w fun e w' => e = .returned (.tuple #[.int .u32 ((Wd.run 35 x y).toNat : Int), .int .i64 0]) ∧ w' = w := by
  have hs := Wd.sh_lt y
  have hx := Wd.lt x
  have hy := Wd.lt y
  have hx1 := Wd.toInt_lo x
  have hx2 := Wd.toInt_hi x
  go_enter Try.func51, Try.ntmps51
  go_wp2_with (first | (go_at_call 76; refine (shift_any _ _).mono ?_; rintro e w' ⟨rfl, rfl⟩) | (go_at_call 77; refine (one_any _ _).mono ?_; rintro e w' ⟨rfl, rfl⟩) | (go_at_call 78; refine (high_any _ _).mono ?_; rintro e w' ⟨rfl, rfl⟩) | (go_at_call 79; refine (signed_any _ _).mono ?_; rintro e w' ⟨rfl, rfl⟩) | (go_at_call 80; refine (quot_any _ _ _).mono ?_; rintro e w' ⟨rfl, rfl⟩) | (go_at_call 81; refine (quotu_any _ _ _).mono ?_; rintro e w' ⟨rfl, rfl⟩) | (go_at_call 82; refine (rest_any _ _ _).mono ?_; rintro e w' ⟨rfl, rfl⟩) | (go_at_call 83; refine (restu_any _ _ _).mono ?_; rintro e w' ⟨rfl, rfl⟩))
  go_ret2
  exact ⟨ret_two (Wd.or_ x y) rfl, rfl⟩

theorem do_36 (x y : BitVec 32) (w : World) : Calls Try.prog 51 #[.int .i64 36, .int .u32 (x.toNat : Int), .int .u32 (y.toNat : Int)] w fun e w' => e = .returned (.tuple #[.int .u32 ((Wd.run 36 x y).toNat : Int), .int .i64 0]) ∧ w' = w := by
  have hs := Wd.sh_lt y
  have hx := Wd.lt x
  have hy := Wd.lt y
  have hx1 := Wd.toInt_lo x
  have hx2 := Wd.toInt_hi x
  go_enter Try.func51, Try.ntmps51
  go_wp2_with (first | (go_at_call 76; refine (shift_any _ _).mono ?_; rintro e w' ⟨rfl, rfl⟩) | (go_at_call 77; refine (one_any _ _).mono ?_; rintro e w' ⟨rfl, rfl⟩) | (go_at_call 78; refine (high_any _ _).mono ?_; rintro e w' ⟨rfl, rfl⟩) | (go_at_call 79; refine (signed_any _ _).mono ?_; rintro e w' ⟨rfl, rfl⟩) | (go_at_call 80; refine (quot_any _ _ _).mono ?_; rintro e w' ⟨rfl, rfl⟩) | (go_at_call 81; refine (quotu_any _ _ _).mono ?_; rintro e w' ⟨rfl, rfl⟩) | (go_at_call 82; refine (rest_any _ _ _).mono ?_; rintro e w' ⟨rfl, rfl⟩) | (go_at_call 83; refine (restu_any _ _ _).mono ?_; rintro e w' ⟨rfl, rfl⟩))
  go_ret2
  exact ⟨ret_two (Wd.and_ x y) rfl, rfl⟩

theorem do_37 (x y : BitVec 32) (w : World) : Calls Try.prog 51 #[.int .i64 37, .int .u32 (x.toNat : Int), .int .u32 (y.toNat : Int)] w fun e w' => e = .returned (.tuple #[.int .u32 ((Wd.run 37 x y).toNat : Int), .int .i64 0]) ∧ w' = w := by
  have hs := Wd.sh_lt y
  have hx := Wd.lt x
  have hy := Wd.lt y
  have hx1 := Wd.toInt_lo x
  have hx2 := Wd.toInt_hi x
  go_enter Try.func51, Try.ntmps51
  go_wp2_with (first | (go_at_call 76; refine (shift_any _ _).mono ?_; rintro e w' ⟨rfl, rfl⟩) | (go_at_call 77; refine (one_any _ _).mono ?_; rintro e w' ⟨rfl, rfl⟩) | (go_at_call 78; refine (high_any _ _).mono ?_; rintro e w' ⟨rfl, rfl⟩) | (go_at_call 79; refine (signed_any _ _).mono ?_; rintro e w' ⟨rfl, rfl⟩) | (go_at_call 80; refine (quot_any _ _ _).mono ?_; rintro e w' ⟨rfl, rfl⟩) | (go_at_call 81; refine (quotu_any _ _ _).mono ?_; rintro e w' ⟨rfl, rfl⟩) | (go_at_call 82; refine (rest_any _ _ _).mono ?_; rintro e w' ⟨rfl, rfl⟩) | (go_at_call 83; refine (restu_any _ _ _).mono ?_; rintro e w' ⟨rfl, rfl⟩))
  go_ret2
  exact ⟨ret_two (Wd.mul_ x y) rfl, rfl⟩

theorem do_38 (x y : BitVec 32) (w : World) : Calls Try.prog 51 #[.int .i64 38, .int .u32 (x.toNat : Int), .int .u32 (y.toNat : Int)] w fun e w' => e = .returned (.tuple #[.int .u32 ((Wd.run 38 x y).toNat : Int), .int .i64 0]) ∧ w' = w := by
  have hs := Wd.sh_lt y
  have hx := Wd.lt x
  have hy := Wd.lt y
  have hx1 := Wd.toInt_lo x
  have hx2 := Wd.toInt_hi x
  have hp := Wd.prod_in x y
  go_enter Try.func51, Try.ntmps51
  go_wp2_with (first | (go_at_call 76; refine (shift_any _ _).mono ?_; rintro e w' ⟨rfl, rfl⟩) | (go_at_call 77; refine (one_any _ _).mono ?_; rintro e w' ⟨rfl, rfl⟩) | (go_at_call 78; refine (high_any _ _).mono ?_; rintro e w' ⟨rfl, rfl⟩) | (go_at_call 79; refine (signed_any _ _).mono ?_; rintro e w' ⟨rfl, rfl⟩) | (go_at_call 80; refine (quot_any _ _ _).mono ?_; rintro e w' ⟨rfl, rfl⟩) | (go_at_call 81; refine (quotu_any _ _ _).mono ?_; rintro e w' ⟨rfl, rfl⟩) | (go_at_call 82; refine (rest_any _ _ _).mono ?_; rintro e w' ⟨rfl, rfl⟩) | (go_at_call 83; refine (restu_any _ _ _).mono ?_; rintro e w' ⟨rfl, rfl⟩))
  go_ret2
  exact ⟨ret_two rfl rfl, rfl⟩

theorem do_39 (x y : BitVec 32) (w : World) : Calls Try.prog 51 #[.int .i64 39, .int .u32 (x.toNat : Int), .int .u32 (y.toNat : Int)] w fun e w' => e = .returned (.tuple #[.int .u32 ((Wd.run 39 x y).toNat : Int), .int .i64 0]) ∧ w' = w := by
  have hs := Wd.sh_lt y
  have hx := Wd.lt x
  have hy := Wd.lt y
  have hx1 := Wd.toInt_lo x
  have hx2 := Wd.toInt_hi x
  have hp := Wd.prodsu_in x y
  go_enter Try.func51, Try.ntmps51
  go_wp2_with (first | (go_at_call 76; refine (shift_any _ _).mono ?_; rintro e w' ⟨rfl, rfl⟩) | (go_at_call 77; refine (one_any _ _).mono ?_; rintro e w' ⟨rfl, rfl⟩) | (go_at_call 78; refine (high_any _ _).mono ?_; rintro e w' ⟨rfl, rfl⟩) | (go_at_call 79; refine (signed_any _ _).mono ?_; rintro e w' ⟨rfl, rfl⟩) | (go_at_call 80; refine (quot_any _ _ _).mono ?_; rintro e w' ⟨rfl, rfl⟩) | (go_at_call 81; refine (quotu_any _ _ _).mono ?_; rintro e w' ⟨rfl, rfl⟩) | (go_at_call 82; refine (rest_any _ _ _).mono ?_; rintro e w' ⟨rfl, rfl⟩) | (go_at_call 83; refine (restu_any _ _ _).mono ?_; rintro e w' ⟨rfl, rfl⟩))
  go_ret2
  exact ⟨ret_two rfl rfl, rfl⟩

theorem do_40 (x y : BitVec 32) (w : World) : Calls Try.prog 51 #[.int .i64 40, .int .u32 (x.toNat : Int), .int .u32 (y.toNat : Int)] w fun e w' => e = .returned (.tuple #[.int .u32 ((Wd.run 40 x y).toNat : Int), .int .i64 0]) ∧ w' = w := by
  have hs := Wd.sh_lt y
  have hx := Wd.lt x
  have hy := Wd.lt y
  have hx1 := Wd.toInt_lo x
  have hx2 := Wd.toInt_hi x
  have hp := Wd.produu_in x y
  go_enter Try.func51, Try.ntmps51
  go_wp2_with (first | (go_at_call 76; refine (shift_any _ _).mono ?_; rintro e w' ⟨rfl, rfl⟩) | (go_at_call 77; refine (one_any _ _).mono ?_; rintro e w' ⟨rfl, rfl⟩) | (go_at_call 78; refine (high_any _ _).mono ?_; rintro e w' ⟨rfl, rfl⟩) | (go_at_call 79; refine (signed_any _ _).mono ?_; rintro e w' ⟨rfl, rfl⟩) | (go_at_call 80; refine (quot_any _ _ _).mono ?_; rintro e w' ⟨rfl, rfl⟩) | (go_at_call 81; refine (quotu_any _ _ _).mono ?_; rintro e w' ⟨rfl, rfl⟩) | (go_at_call 82; refine (rest_any _ _ _).mono ?_; rintro e w' ⟨rfl, rfl⟩) | (go_at_call 83; refine (restu_any _ _ _).mono ?_; rintro e w' ⟨rfl, rfl⟩))
  go_ret2
  exact ⟨ret_two (Wd.hi_uu x y) rfl, rfl⟩

theorem do_41 (x y : BitVec 32) (w : World) : Calls Try.prog 51 #[.int .i64 41, .int .u32 (x.toNat : Int), .int .u32 (y.toNat : Int)] w fun e w' => e = .returned (.tuple #[.int .u32 ((Wd.run 41 x y).toNat : Int), .int .i64 0]) ∧ w' = w := by
  have hs := Wd.sh_lt y
  have hx := Wd.lt x
  have hy := Wd.lt y
  have hx1 := Wd.toInt_lo x
  have hx2 := Wd.toInt_hi x
  go_enter Try.func51, Try.ntmps51
  go_wp2_with (first | (go_at_call 76; refine (shift_any _ _).mono ?_; rintro e w' ⟨rfl, rfl⟩) | (go_at_call 77; refine (one_any _ _).mono ?_; rintro e w' ⟨rfl, rfl⟩) | (go_at_call 78; refine (high_any _ _).mono ?_; rintro e w' ⟨rfl, rfl⟩) | (go_at_call 79; refine (signed_any _ _).mono ?_; rintro e w' ⟨rfl, rfl⟩) | (go_at_call 80; refine (quot_any _ _ _).mono ?_; rintro e w' ⟨rfl, rfl⟩) | (go_at_call 81; refine (quotu_any _ _ _).mono ?_; rintro e w' ⟨rfl, rfl⟩) | (go_at_call 82; refine (rest_any _ _ _).mono ?_; rintro e w' ⟨rfl, rfl⟩) | (go_at_call 83; refine (restu_any _ _ _).mono ?_; rintro e w' ⟨rfl, rfl⟩))
  go_ret2
  exact ⟨ret_two rfl rfl, rfl⟩

theorem do_42 (x y : BitVec 32) (w : World) : Calls Try.prog 51 #[.int .i64 42, .int .u32 (x.toNat : Int), .int .u32 (y.toNat : Int)] w fun e w' => e = .returned (.tuple #[.int .u32 ((Wd.run 42 x y).toNat : Int), .int .i64 0]) ∧ w' = w := by
  have hs := Wd.sh_lt y
  have hx := Wd.lt x
  have hy := Wd.lt y
  have hx1 := Wd.toInt_lo x
  have hx2 := Wd.toInt_hi x
  go_enter Try.func51, Try.ntmps51
  go_wp2_with (first | (go_at_call 76; refine (shift_any _ _).mono ?_; rintro e w' ⟨rfl, rfl⟩) | (go_at_call 77; refine (one_any _ _).mono ?_; rintro e w' ⟨rfl, rfl⟩) | (go_at_call 78; refine (high_any _ _).mono ?_; rintro e w' ⟨rfl, rfl⟩) | (go_at_call 79; refine (signed_any _ _).mono ?_; rintro e w' ⟨rfl, rfl⟩) | (go_at_call 80; refine (quot_any _ _ _).mono ?_; rintro e w' ⟨rfl, rfl⟩) | (go_at_call 81; refine (quotu_any _ _ _).mono ?_; rintro e w' ⟨rfl, rfl⟩) | (go_at_call 82; refine (rest_any _ _ _).mono ?_; rintro e w' ⟨rfl, rfl⟩) | (go_at_call 83; refine (restu_any _ _ _).mono ?_; rintro e w' ⟨rfl, rfl⟩))
  go_ret2
  exact ⟨ret_two rfl rfl, rfl⟩

theorem do_43 (x y : BitVec 32) (w : World) : Calls Try.prog 51 #[.int .i64 43, .int .u32 (x.toNat : Int), .int .u32 (y.toNat : Int)] w fun e w' => e = .returned (.tuple #[.int .u32 ((Wd.run 43 x y).toNat : Int), .int .i64 0]) ∧ w' = w := by
  have hs := Wd.sh_lt y
  have hx := Wd.lt x
  have hy := Wd.lt y
  have hx1 := Wd.toInt_lo x
  have hx2 := Wd.toInt_hi x
  go_enter Try.func51, Try.ntmps51
  go_wp2_with (first | (go_at_call 76; refine (shift_any _ _).mono ?_; rintro e w' ⟨rfl, rfl⟩) | (go_at_call 77; refine (one_any _ _).mono ?_; rintro e w' ⟨rfl, rfl⟩) | (go_at_call 78; refine (high_any _ _).mono ?_; rintro e w' ⟨rfl, rfl⟩) | (go_at_call 79; refine (signed_any _ _).mono ?_; rintro e w' ⟨rfl, rfl⟩) | (go_at_call 80; refine (quot_any _ _ _).mono ?_; rintro e w' ⟨rfl, rfl⟩) | (go_at_call 81; refine (quotu_any _ _ _).mono ?_; rintro e w' ⟨rfl, rfl⟩) | (go_at_call 82; refine (rest_any _ _ _).mono ?_; rintro e w' ⟨rfl, rfl⟩) | (go_at_call 83; refine (restu_any _ _ _).mono ?_; rintro e w' ⟨rfl, rfl⟩))
  go_ret2
  exact ⟨ret_two rfl rfl, rfl⟩

theorem do_44 (x y : BitVec 32) (w : World) : Calls Try.prog 51 #[.int .i64 44, .int .u32 (x.toNat : Int), .int .u32 (y.toNat : Int)] w fun e w' => e = .returned (.tuple #[.int .u32 ((Wd.run 44 x y).toNat : Int), .int .i64 0]) ∧ w' = w := by
  have hs := Wd.sh_lt y
  have hx := Wd.lt x
  have hy := Wd.lt y
  have hx1 := Wd.toInt_lo x
  have hx2 := Wd.toInt_hi x
  go_enter Try.func51, Try.ntmps51
  go_wp2_with (first | (go_at_call 76; refine (shift_any _ _).mono ?_; rintro e w' ⟨rfl, rfl⟩) | (go_at_call 77; refine (one_any _ _).mono ?_; rintro e w' ⟨rfl, rfl⟩) | (go_at_call 78; refine (high_any _ _).mono ?_; rintro e w' ⟨rfl, rfl⟩) | (go_at_call 79; refine (signed_any _ _).mono ?_; rintro e w' ⟨rfl, rfl⟩) | (go_at_call 80; refine (quot_any _ _ _).mono ?_; rintro e w' ⟨rfl, rfl⟩) | (go_at_call 81; refine (quotu_any _ _ _).mono ?_; rintro e w' ⟨rfl, rfl⟩) | (go_at_call 82; refine (rest_any _ _ _).mono ?_; rintro e w' ⟨rfl, rfl⟩) | (go_at_call 83; refine (restu_any _ _ _).mono ?_; rintro e w' ⟨rfl, rfl⟩))
  go_ret2
  exact ⟨ret_two rfl rfl, rfl⟩

theorem do_none (op : Int) (x y : BitVec 32) (w : World) (h : op < 27 ∨ 44 < op) : Calls Try.prog 51 #[.int .i64 op, .int .u32 (x.toNat : Int), .int .u32 (y.toNat : Int)] w fun e w' => e = .returned (.tuple #[.int .u32 0, .int .i64 1]) ∧ w' = w := by
  rcases h with h | h
  all_goals go_enter Try.func51, Try.ntmps51
  all_goals go_wp2
  all_goals go_ret2
  all_goals exact ⟨rfl, rfl⟩

theorem do_any (op : Int) (x y : BitVec 32) (w : World) : Calls Try.prog 51 #[.int .i64 op, .int .u32 (x.toNat : Int), .int .u32 (y.toNat : Int)] w fun e w' => e = .returned (.tuple #[.int .u32 ((Wd.run op x y).toNat : Int), .int .i64 (Wd.err op)]) ∧ w' = w := by
  by_cases h : 27 ≤ op ∧ op ≤ 44
  · have : op = 27 ∨ op = 28 ∨ op = 29 ∨ op = 30 ∨ op = 31 ∨ op = 32 ∨ op = 33 ∨ op = 34 ∨ op = 35 ∨ op = 36 ∨ op = 37 ∨ op = 38 ∨ op = 39 ∨ op = 40 ∨ op = 41 ∨ op = 42 ∨ op = 43 ∨ op = 44 := by omega
    clear h
    rcases this with rfl | rfl | rfl | rfl | rfl | rfl | rfl | rfl | rfl | rfl | rfl | rfl | rfl | rfl | rfl | rfl | rfl | rfl
    · exact do_27 x y w
    · exact do_28 x y w
    · exact do_29 x y w
    · exact do_30 x y w
    · exact do_31 x y w
    · exact do_32 x y w
    · exact do_33 x y w
    · exact do_34 x y w
    · exact do_35 x y w
    · exact do_36 x y w
    · exact do_37 x y w
    · exact do_38 x y w
    · exact do_39 x y w
    · exact do_40 x y w
    · exact do_41 x y w
    · exact do_42 x y w
    · exact do_43 x y w
    · exact do_44 x y w
  · have e1 : Wd.err op = 1 := by unfold Wd.err Wd.known; rw [if_neg (by rw [decide_eq_true_eq]; exact h)]
    have e2 : Wd.run op x y = (BitVec.ofNat 32 0) := by
      unfold Wd.run
      repeat rw [if_neg (by omega)]
    rw [e1, e2]
    exact do_none op x y w (by omega)
end Go.Proofs.Ytilphdfobflbiaa
