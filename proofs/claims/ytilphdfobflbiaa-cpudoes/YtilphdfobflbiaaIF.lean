/-
  Contracts of package inst's Form and Plain, and of a form's number out of a word and into one.
-/
import Derived.Test.YtilphdfobflbiaaIQ
namespace Go.Proofs.Ytilphdfobflbiaa
open Go.RowKit Ip

theorem field0 (a b c d : Int) (w : World) : (Instr.field 119 (.agg #[.int .u8 a, .int .u8 b, .int .u8 c, .int .u8 d]) 0).run Try.prog w = .ok (.int .u8 a) w := by kernel_rfl
theorem form_any (op : Int) (w : World) : Calls Try.prog 45 #[.int .i64 op] w fun e w' => e = .returned (.int .u8 (frm op : Int)) ∧ Below w.heap.size w w' := by
  by_cases h0 : op < 0
  · go_enter Try.func45, Try.ntmps45
    go_wp2
    go_ret
    exact ⟨ret_int (by unfold frm; rw [if_neg (by omega)]; rfl), Below.refl _ _⟩
  · by_cases h1 : 47 ≤ op
    · go_enter Try.func45, Try.ntmps45
      go_wp2
      go_ret
      exact ⟨ret_int (by unfold frm; rw [if_pos (by omega), kf_zero _ (by omega)]; rfl), Below.refl _ _⟩
    · obtain ⟨k, rfl⟩ := Int.eq_ofNat_of_zero_le (by omega : 0 ≤ op)
      have hidx := index_at k (by omega)
      have hfld := field0
      go_enter Try.func45, Try.ntmps45
      go_wp2_with (go_at_call 75; refine (kinds_any _).mono ?_; rintro e w1 ⟨rfl, hb⟩)
      go_ret
      exact ⟨ret_int (by unfold frm; rw [if_pos (by omega), Int.toNat_natCast]), hb⟩

theorem number_any (x : BitVec 32) (f : Nat) (h : is8 f) (w : World) : Calls Try.prog 69 #[.int .u32 (x.toNat : Int), .int .u8 (f : Int)] w fun e w' => e = .returned (.int .i64 (number x f)) ∧ Below w.heap.size w w' := by
  go_enter Try.func69, Try.ntmps69
  go_wp2_with (go_at_call 90; refine (pieces_any f h _).mono ?_; rintro e w1 ⟨rfl, hb⟩)
  go_loopw [5, 10] (fun v i wr => ∃ k : Nat, k ≤ 4 ∧ i = .int .i64 (k : Int) ∧ v = .int .u32 ((numV x f k).toNat : Int) ∧ Below w.heap.size w wr) (fun _ i _ => (4 - intOf i).toNat)
  case atStart => exact ⟨0, by omega, rfl, rfl, hb⟩
  case round =>
    obtain ⟨k, hk, rfl, rfl, hbr⟩ := hrel
    by_cases hlt : k < 4
    · have hidx := piece_at f h k hlt
      go_wp2_with fail
      go_quiet ((first | (go_at_call 70; exact Calls.quiet_of (field_any _ _ _ _)) | (go_at_call 91; exact Calls.quiet_of (put_any _ _ _ _ _))))
      go_wp2
      go_roundw
      case rel => exact ⟨k + 1, by omega, by go_num, rfl, below_drewN (hbr.alloc hbr.size _) _⟩
      case measure => simp [intOf]; omega
    · have e : k = 4 := by omega
      subst e
      go_wp2_with fail
      refine (signedBits_any f h _).mono ?_
      rintro e w2 ⟨rfl, rfl⟩
      go_wp2_with fail
      refine (sign_any _ _ _).mono ?_
      rintro e w2 ⟨rfl, kk, rfl⟩
      go_wp2
      go_ret
      exact ⟨ret_int (by
        have b1 := Wd.toInt_lo (Wd.sign (numV x f 4) (sb f))
        have b2 := Wd.toInt_hi (Wd.sign (numV x f 4) (sb f))
        unfold number; rw [Wd.toInt_, IntWalk.wrap64_in _ (by omega)]), below_drewN hbr _⟩

end Go.Proofs.Ytilphdfobflbiaa
