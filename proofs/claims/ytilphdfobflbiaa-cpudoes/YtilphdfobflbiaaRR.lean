/-
  Contract of the document's Right: it comes to the same plain function as the program's own.
-/
import Derived.Test.YtilphdfobflbiaaRA
namespace Go.Proofs.Ytilphdfobflbiaa
open Go.RowKit Ip

theorem rform_to (op : Int) (F : Nat) (h : F = frm op) (w : World) : Calls Try.prog 41 #[.int .i64 op] w fun e w' => e = .returned (.int .u8 (F : Int)) ∧ w' = w := by
  subst h; exact rform_any op w
theorem rspan_to (f : Nat) (h : is8 f) (a b c : Int) (ha : a = lo f) (hb : b = hi f) (hc : c = st f) (w : World) : Calls Try.prog 54 #[.int .u8 (f : Int)] w fun e w' => e = .returned (.tuple #[.int .i64 a, .int .i64 b, .int .i64 c]) ∧ w' = w := by
  subst ha hb hc; exact rspan_any f (.inl h) w

set_option maxHeartbeats 4000000 in
theorem rright_core (op rd rs1 rs2 imm : Int) (F : Nat) (hF : F = frm op) (h8 : is8 F) (b1 b2 b3 : Bool) (h1 : inB F ⟨#[85, 74, 73, 72, 82]⟩ = b1) (h2 : inB F ⟨#[73, 72, 66, 83, 82]⟩ = b2) (h3 : inB F ⟨#[66, 83, 82]⟩ = b3)
    (t1 t2 t3 : Bool) (g1 : fit rd b1 = t1) (g2 : fit rs1 b2 = t2) (g3 : fit rs2 b3 = t3) (L H T : Int) (hL : L = lo F) (hH : H = hi F) (hT : T = st F) (T1 : 1 ≤ T) (w : World) :
    Calls Try.prog 22 #[.agg #[.int .i64 op, .int .i64 rd, .int .i64 rs1, .int .i64 rs2, .int .i64 imm]] w fun e w' => e = .returned (.bool (t1 && t2 && t3 && inSpan L H T imm)) ∧ Below w.heap.size w w' := by
  have HF : Hid (F = frm op) := hF
  have H8 : Hid (is8 F) := h8
  have HL : Hid (L = lo F) := hL
  have HH : Hid (H = hi F) := hH
  have HT : Hid (T = st F) := hT
  have hne : ((F : Int) != 0) = true := by
    unfold is8 at h8
    rw [bne_iff_ne]; omega
  have hdv : Hid ((imm.tmod T == 0) = decide (imm % T = 0)) := by
    show _ = _
    rw [Bool.eq_iff_iff, beq_iff_eq, decide_eq_true_eq, ← Int.dvd_iff_tmod_eq_zero, Int.dvd_iff_emod_eq_zero]
  clear hF h8 hL hH hT
  cases t1
  · go_enter Try.func22, Try.ntmps22
    go_wp2_with fail
    refine (rform_to op F HF.out _).mono ?_
    rintro e w1 ⟨rfl, rfl⟩
    go_wp2_with fail
    refine (rspan_to F H8.out _ _ _ HL.out HH.out HT.out _).mono ?_
    rintro e w1 ⟨rfl, rfl⟩
    go_wp2_with fail
    go_quiet ((first | (go_at_call 56; exact Calls.quiet_of_same (inB_any _ _ (by decide) _)) | (go_at_call 55; exact Calls.quiet_of_same (reg_any _ _ _))))
    go_wp2
    go_ret
    exact ⟨rfl, below_drewN ((Below.refl _ _).alloc (Nat.le_refl _) _) _⟩
  · cases t2
    · go_enter Try.func22, Try.ntmps22
      go_wp2_with fail
      refine (rform_to op F HF.out _).mono ?_
      rintro e w1 ⟨rfl, rfl⟩
      go_wp2_with fail
      refine (rspan_to F H8.out _ _ _ HL.out HH.out HT.out _).mono ?_
      rintro e w1 ⟨rfl, rfl⟩
      go_wp2_with fail
      go_quiet ((first | (go_at_call 56; exact Calls.quiet_of_same (inB_any _ _ (by decide) _)) | (go_at_call 55; exact Calls.quiet_of_same (reg_any _ _ _))))
      go_wp2
      go_ret
      exact ⟨rfl, below_drewN ((Below.refl _ _).alloc (Nat.le_refl _) _) _⟩
    · cases t3
      · go_enter Try.func22, Try.ntmps22
        go_wp2_with fail
        refine (rform_to op F HF.out _).mono ?_
        rintro e w1 ⟨rfl, rfl⟩
        go_wp2_with fail
        refine (rspan_to F H8.out _ _ _ HL.out HH.out HT.out _).mono ?_
        rintro e w1 ⟨rfl, rfl⟩
        go_wp2_with fail
        go_quiet ((first | (go_at_call 56; exact Calls.quiet_of_same (inB_any _ _ (by decide) _)) | (go_at_call 55; exact Calls.quiet_of_same (reg_any _ _ _))))
        go_wp2
        go_ret
        exact ⟨rfl, below_drewN ((Below.refl _ _).alloc (Nat.le_refl _) _) _⟩
      · by_cases s0 : L ≤ imm
        · have d0 : decide (L ≤ imm) = true := decide_eq_true s0
          by_cases s1 : imm ≤ H
          · have d1 : decide (imm ≤ H) = true := decide_eq_true s1
            have HS : Hid (inSpan L H T imm = decide (imm % T = 0)) := by
              show decide _ = decide _
              rw [decide_eq_decide]; exact ⟨fun h => h.2.2, fun h => ⟨s0, s1, h⟩⟩
            go_enter Try.func22, Try.ntmps22
            go_wp2_with fail
            refine (rform_to op F HF.out _).mono ?_
            rintro e w1 ⟨rfl, rfl⟩
            go_wp2_with fail
            refine (rspan_to F H8.out _ _ _ HL.out HH.out HT.out _).mono ?_
            rintro e w1 ⟨rfl, rfl⟩
            go_wp2_with fail
            go_quiet ((first | (go_at_call 56; exact Calls.quiet_of_same (inB_any _ _ (by decide) _)) | (go_at_call 55; exact Calls.quiet_of_same (reg_any _ _ _))))
            go_wp2
            go_ret
            exact ⟨ret_bool (by rw [HS.out, hdv.out]; rfl), below_drewN ((Below.refl _ _).alloc (Nat.le_refl _) _) _⟩
          · have d1 : decide (imm ≤ H) = false := decide_eq_false s1
            have HS : Hid (inSpan L H T imm = false) := decide_eq_false (fun h => s1 h.2.1)
            clear s1
            go_enter Try.func22, Try.ntmps22
            go_wp2_with fail
            refine (rform_to op F HF.out _).mono ?_
            rintro e w1 ⟨rfl, rfl⟩
            go_wp2_with fail
            refine (rspan_to F H8.out _ _ _ HL.out HH.out HT.out _).mono ?_
            rintro e w1 ⟨rfl, rfl⟩
            go_wp2_with fail
            go_quiet ((first | (go_at_call 56; exact Calls.quiet_of_same (inB_any _ _ (by decide) _)) | (go_at_call 55; exact Calls.quiet_of_same (reg_any _ _ _))))
            go_wp2
            go_ret
            exact ⟨ret_bool (by rw [HS.out]; rfl), below_drewN ((Below.refl _ _).alloc (Nat.le_refl _) _) _⟩
        · have d0 : decide (L ≤ imm) = false := decide_eq_false s0
          have HS : Hid (inSpan L H T imm = false) := decide_eq_false (fun h => s0 h.1)
          clear s0
          go_enter Try.func22, Try.ntmps22
          go_wp2_with fail
          refine (rform_to op F HF.out _).mono ?_
          rintro e w1 ⟨rfl, rfl⟩
          go_wp2_with fail
          refine (rspan_to F H8.out _ _ _ HL.out HH.out HT.out _).mono ?_
          rintro e w1 ⟨rfl, rfl⟩
          go_wp2_with fail
          go_quiet ((first | (go_at_call 56; exact Calls.quiet_of_same (inB_any _ _ (by decide) _)) | (go_at_call 55; exact Calls.quiet_of_same (reg_any _ _ _))))
          go_wp2
          go_ret
          exact ⟨ret_bool (by rw [HS.out]; rfl), below_drewN ((Below.refl _ _).alloc (Nat.le_refl _) _) _⟩

theorem rright_any (op rd rs1 rs2 imm : Int) (w : World) : Calls Try.prog 22 #[.agg #[.int .i64 op, .int .i64 rd, .int .i64 rs1, .int .i64 rs2, .int .i64 imm]] w fun e w' => e = .returned (.bool (right op rd rs1 rs2 imm)) ∧ Below w.heap.size w w' := by
  by_cases h : frm op = 0
  · have E : Hid (right op rd rs1 rs2 imm = false) := show _ = _ by unfold right; rw [h]; rfl
    have H : Hid (0 = frm op) := h.symm
    clear h
    go_enter Try.func22, Try.ntmps22
    go_wp2_with fail
    refine (rform_to op 0 H.out _).mono ?_
    rintro e w1 ⟨rfl, rfl⟩
    go_wp2_with fail
    refine (rspan_any 0 (.inr rfl) _).mono ?_
    rintro e w1 ⟨rfl, rfl⟩
    go_wp2_with fail
    go_quiet (fail)
    go_wp2
    go_ret
    exact ⟨ret_bool E.out.symm, below_drewN ((Below.refl _ _).alloc (Nat.le_refl _) _) _⟩
  · have h8 := (is8_frm op h).1
    have e : right op rd rs1 rs2 imm = (fit rd (hRd (frm op)) && fit rs1 (hRs1 (frm op)) && fit rs2 (hRs2 (frm op)) && inSpan (lo (frm op)) (hi (frm op)) (st (frm op)) imm) := by
      unfold right; rw [decide_eq_true h, Bool.true_and]
    rw [e]
    exact rright_core op rd rs1 rs2 imm _ rfl h8 _ _ _ (inB_Rd _ h8) (inB_Rs1 _ h8) (inB_Rs2 _ h8) _ _ _ rfl rfl rfl _ _ _ rfl rfl rfl (st_pos _) w
end Go.Proofs.Ytilphdfobflbiaa
