/-
  Contracts of the document's answer for layer 2 (forms, spans, plain kinds): each comes to the same plain function as the program's own.
  Contract of the document's Right: it comes to the same plain function as the program's own.
-/

import Derived.Test.YtcffpmicencfpabGreatZd
namespace Go.Proofs.YtcffpmicencfpabGreat
open Go.RowKit Ip

/-- The text of the forms' letters. -/
def formText : ByteArray := ⟨#[85, 85, 74, 73, 66, 66, 66, 66, 66, 66, 73, 73, 73, 73, 73, 83, 83, 83, 73, 73, 73, 73, 73, 73, 72, 72, 72, 82, 82, 82, 82, 82, 82, 82, 82, 82, 82, 82, 82, 82, 82, 82, 82, 82, 82, 69, 69]⟩
theorem formText_size : formText.size = 47 := rfl
theorem forms_any (w : World) : Calls Tryz.prog 41 #[] w fun e w' => e = .returned (.string formText) ∧ w' = w := by
  go_enter Tryz.func41, Tryz.ntmps41
  go_wp2
  go_ret
  exact ⟨rfl, rfl⟩
theorem formText_at (k : Nat) (h : k < 47) (w : World) : (Instr.index 9 (.string formText) (.int .i64 (k : Int))).run Tryz.prog w = .ok (.int .u8 (kf k : Int)) w := by
  revert k
  refine cases47 ?_ ?_ ?_ ?_ ?_ ?_ ?_ ?_ ?_ ?_ ?_ ?_ ?_ ?_ ?_ ?_ ?_ ?_ ?_ ?_ ?_ ?_ ?_ ?_ ?_ ?_ ?_ ?_ ?_ ?_ ?_ ?_ ?_ ?_ ?_ ?_ ?_ ?_ ?_ ?_ ?_ ?_ ?_ ?_ ?_ ?_ ?_
  all_goals kernel_rfl
theorem rform_any (op : Int) (w : World) : Calls Tryz.prog 24 #[.int .i64 op] w fun e w' => e = .returned (.int .u8 (frm op : Int)) ∧ w' = w := by
  have hsz := formText_size
  by_cases h0 : op < 0
  · go_enter Tryz.func24, Tryz.ntmps24
    go_wp2_with (go_at_call 41; refine (forms_any _).mono ?_; rintro e w1 ⟨rfl, rfl⟩)
    go_ret
    exact ⟨ret_int (by unfold frm; rw [if_neg (by omega)]; rfl), rfl⟩
  · by_cases h1 : 47 ≤ op
    · go_enter Tryz.func24, Tryz.ntmps24
      go_wp2_with (go_at_call 41; refine (forms_any _).mono ?_; rintro e w1 ⟨rfl, rfl⟩)
      go_ret
      exact ⟨ret_int (by unfold frm; rw [if_pos (by omega), kf_zero _ (by omega)]; rfl), rfl⟩
    · obtain ⟨k, rfl⟩ := Int.eq_ofNat_of_zero_le (by omega : 0 ≤ op)
      have hidx := formText_at k (by omega)
      go_enter Tryz.func24, Tryz.ntmps24
      go_wp2_with (go_at_call 41; refine (forms_any _).mono ?_; rintro e w1 ⟨rfl, rfl⟩)
      go_ret
      exact ⟨ret_int (by unfold frm; rw [if_pos (by omega), Int.toNat_natCast]), rfl⟩

theorem reg_any (r : Int) (b : Bool) (w : World) : Calls Tryz.prog 39 #[.int .i64 r, .bool b] w fun e w' => e = .returned (.bool (fit r b)) ∧ w' = w := by
  by_cases h0 : (r == 0) = true
  · have e : r = 0 := by simpa using h0
    have H : Hid (r = 0) := e
    clear e
    go_enter Tryz.func39, Tryz.ntmps39
    go_wp2
    go_ret
    exact ⟨ret_bool (by rw [H.out]; cases b <;> rfl), rfl⟩
  · have h0' : (r == 0) = false := by simpa using h0
    have e : r ≠ 0 := by simpa using h0
    have H : Hid (r ≠ 0) := e
    clear e h0
    cases b
    · go_enter Tryz.func39, Tryz.ntmps39
      go_wp2
      go_ret
      exact ⟨ret_bool (by unfold fit; rw [if_neg (by decide)]; exact (decide_eq_false H.out).symm), rfl⟩
    · by_cases h1 : 0 < r
      · by_cases h2 : r < 32
        · go_enter Tryz.func39, Tryz.ntmps39
          go_wp2
          go_ret
          exact ⟨ret_bool (by unfold fit; rw [if_pos rfl]; exact (decide_eq_true (by omega)).symm), rfl⟩
        · go_enter Tryz.func39, Tryz.ntmps39
          go_wp2
          go_ret
          exact ⟨ret_bool (by unfold fit; rw [if_pos rfl]; exact (decide_eq_false (by omega)).symm), rfl⟩
      · go_enter Tryz.func39, Tryz.ntmps39
        go_wp2
        go_ret
        exact ⟨ret_bool (by unfold fit; rw [if_pos rfl]; have := H.out; exact (decide_eq_false (by omega)).symm), rfl⟩

theorem rspan_any (f : Nat) (h : is8 f ∨ f = 0) (w : World) : Calls Tryz.prog 38 #[.int .u8 (f : Int)] w fun e w' => e = .returned (.tuple #[.int .i64 (lo f), .int .i64 (hi f), .int .i64 (st f)]) ∧ w' = w := by
  rcases h with h | rfl
  · rcases h with rfl | rfl | rfl | rfl | rfl | rfl | rfl | rfl
    all_goals
      go_enter Tryz.func38, Tryz.ntmps38
      go_wp2
      go_ret3
      exact ⟨rfl, rfl⟩
  · go_enter Tryz.func38, Tryz.ntmps38
    go_wp2
    go_ret3
    exact ⟨rfl, rfl⟩

/-- Does a byte stand in a text? -/
def inS (c : Int) (l : List UInt8) : Bool := l.any fun b => (b.toNat : Int) == c
theorem inS_snoc (c : Int) (s : ByteArray) (k : Nat) (h : k < s.size) : inS c (s.data.toList.take (k + 1)) = (inS c (s.data.toList.take k) || ((s[k].toNat : Int) == c)) := by
  have e : s.data.toList.take (k + 1) = s.data.toList.take k ++ [s[k]] := by
    rw [List.take_succ_eq_append_getElem (by simpa using h)]; rfl
  rw [e]; unfold inS; rw [List.any_append]; simp
theorem inS_some (c : Int) (s : ByteArray) (k : Nat) (h : k < s.size) (he : ((s[k].toNat : Int) == c) = true) : inS c s.data.toList = true := by
  unfold inS
  rw [List.any_eq_true]
  exact ⟨s[k], Array.getElem_mem_toList _, he⟩
theorem in_any (c : Nat) (s : ByteArray) (hs : s.size ≤ 100) (w : World) : Calls Tryz.prog 40 #[.int .u8 (c : Int), .string s] w fun e w' => e = .returned (.bool (inS c s.data.toList)) ∧ w' = w := by
  go_enter Tryz.func40, Tryz.ntmps40
  go_wp2
  go_loop [5] (fun i => ∃ k : Nat, k ≤ s.size ∧ i = .int .i64 k ∧ Hid (inS c (s.data.toList.take k) = false)) (fun i => s.size - (intOf i).toNat)
  case atStart => exact ⟨0, Nat.zero_le _, rfl, rfl⟩
  case round =>
    obtain ⟨k, hk, rfl, hno⟩ := hrel
    by_cases hlt : k < s.size
    · by_cases he : ((s[k].toNat : Int) == (c : Int)) = true
      · have H : Hid (inS c s.data.toList = true) := inS_some c s k hlt he
        go_wp2
        go_ret
        exact ⟨ret_bool H.out.symm, rfl⟩
      · have he' : ((s[k].toNat : Int) == (c : Int)) = false := by simpa using he
        have H : Hid (inS c (s.data.toList.take (k + 1)) = false) := by
          show _ = _
          rw [inS_snoc c s k hlt, hno.out, he']; rfl
        clear he
        go_wp2
        go_round
        case rel => exact ⟨k + 1, by omega, by go_num, H⟩
        case measure => simp [intOf]; omega
    · have e : inS c s.data.toList = false := by
        have := hno.out
        rw [List.take_of_length_le (by simp; omega)] at this; exact this
      have H : Hid (inS c s.data.toList = false) := e
      clear e
      go_wp2
      go_ret
      exact ⟨ret_bool H.out.symm, rfl⟩

def inB (c : Int) (s : ByteArray) : Bool := inS c s.data.toList
theorem inB_any (c : Nat) (s : ByteArray) (hs : s.size ≤ 100) (w : World) : Calls Tryz.prog 40 #[.int .u8 (c : Int), .string s] w fun e w' => e = .returned (.bool (inB c s)) ∧ w' = w := in_any c s hs w
def hSg (f : Nat) : Bool := decide (f = 74 ∨ f = 73 ∨ f = 83 ∨ f = 66)
theorem inB_Rd (f : Nat) (h : is8 f) : inB f ⟨#[85, 74, 73, 72, 82]⟩ = hRd f := by
  rcases h with rfl | rfl | rfl | rfl | rfl | rfl | rfl | rfl <;> rfl
theorem inB_Rs1 (f : Nat) (h : is8 f) : inB f ⟨#[73, 72, 66, 83, 82]⟩ = hRs1 f := by
  rcases h with rfl | rfl | rfl | rfl | rfl | rfl | rfl | rfl <;> rfl
theorem inB_Rs2 (f : Nat) (h : is8 f) : inB f ⟨#[66, 83, 82]⟩ = hRs2 f := by
  rcases h with rfl | rfl | rfl | rfl | rfl | rfl | rfl | rfl <;> rfl
theorem inB_Sg (f : Nat) (h : is8 f) : inB f ⟨#[74, 73, 83, 66]⟩ = hSg f := by
  rcases h with rfl | rfl | rfl | rfl | rfl | rfl | rfl | rfl <;> rfl
end Go.Proofs.YtcffpmicencfpabGreat
namespace Go.Proofs.YtcffpmicencfpabGreat
open Go.RowKit Ip

theorem rform_to (op : Int) (F : Nat) (h : F = frm op) (w : World) : Calls Tryz.prog 24 #[.int .i64 op] w fun e w' => e = .returned (.int .u8 (F : Int)) ∧ w' = w := by
  subst h; exact rform_any op w
theorem rspan_to (f : Nat) (h : is8 f) (a b c : Int) (ha : a = lo f) (hb : b = hi f) (hc : c = st f) (w : World) : Calls Tryz.prog 38 #[.int .u8 (f : Int)] w fun e w' => e = .returned (.tuple #[.int .i64 a, .int .i64 b, .int .i64 c]) ∧ w' = w := by
  subst ha hb hc; exact rspan_any f (.inl h) w

set_option maxHeartbeats 4000000 in
theorem rright_core (op rd rs1 rs2 imm : Int) (F : Nat) (hF : F = frm op) (h8 : is8 F) (b1 b2 b3 : Bool) (h1 : inB F ⟨#[85, 74, 73, 72, 82]⟩ = b1) (h2 : inB F ⟨#[73, 72, 66, 83, 82]⟩ = b2) (h3 : inB F ⟨#[66, 83, 82]⟩ = b3)
    (t1 t2 t3 : Bool) (g1 : fit rd b1 = t1) (g2 : fit rs1 b2 = t2) (g3 : fit rs2 b3 = t3) (L H T : Int) (hL : L = lo F) (hH : H = hi F) (hT : T = st F) (T1 : 1 ≤ T) (w : World) :
    Calls Tryz.prog 23 #[.agg #[.int .i64 op, .int .i64 rd, .int .i64 rs1, .int .i64 rs2, .int .i64 imm]] w fun e w' => e = .returned (.bool (t1 && t2 && t3 && inSpan L H T imm)) ∧ Below w.heap.size w w' := by
  have HF : Hid (F = frm op) := hF
  have H8 : Hid (is8 F) := h8
  have HL : Hid (L = lo F) := hL
  have HH : Hid (H = hi F) := hH
  have HT : Hid (T = st F) := hT
  have hne : ((F : Int) != 0) = true := by
    unfold is8 at h8
    rw [bne_iff_ne]; omega
  have hdv : Hid ((imm.tmod T == 0) = decide (imm % T = 0)) := by
    show _ = _
    rw [Bool.eq_iff_iff, beq_iff_eq, decide_eq_true_eq, ← Int.dvd_iff_tmod_eq_zero, Int.dvd_iff_emod_eq_zero]
  clear hF h8 hL hH hT
  cases t1
  · go_enter Tryz.func23, Tryz.ntmps23
    go_wp2_with fail
    refine (rform_to op F HF.out _).mono ?_
    rintro e w1 ⟨rfl, rfl⟩
    go_wp2_with fail
    refine (rspan_to F H8.out _ _ _ HL.out HH.out HT.out _).mono ?_
    rintro e w1 ⟨rfl, rfl⟩
    go_wp2_with fail
    go_quiet ((first | (go_at_call 40; exact Calls.quiet_of_same (inB_any _ _ (by decide) _)) | (go_at_call 39; exact Calls.quiet_of_same (reg_any _ _ _))))
    go_wp2
    go_ret
    exact ⟨rfl, below_drewN ((Below.refl _ _).alloc (Nat.le_refl _) _) _⟩
  · cases t2
    · go_enter Tryz.func23, Tryz.ntmps23
      go_wp2_with fail
      refine (rform_to op F HF.out _).mono ?_
      rintro e w1 ⟨rfl, rfl⟩
      go_wp2_with fail
      refine (rspan_to F H8.out _ _ _ HL.out HH.out HT.out _).mono ?_
      rintro e w1 ⟨rfl, rfl⟩
      go_wp2_with fail
      go_quiet ((first | (go_at_call 40; exact Calls.quiet_of_same (inB_any _ _ (by decide) _)) | (go_at_call 39; exact Calls.quiet_of_same (reg_any _ _ _))))
      go_wp2
      go_ret
      exact ⟨rfl, below_drewN ((Below.refl _ _).alloc (Nat.le_refl _) _) _⟩
    · cases t3
      · go_enter Tryz.func23, Tryz.ntmps23
        go_wp2_with fail
        refine (rform_to op F HF.out _).mono ?_
        rintro e w1 ⟨rfl, rfl⟩
        go_wp2_with fail
        refine (rspan_to F H8.out _ _ _ HL.out HH.out HT.out _).mono ?_
        rintro e w1 ⟨rfl, rfl⟩
        go_wp2_with fail
        go_quiet ((first | (go_at_call 40; exact Calls.quiet_of_same (inB_any _ _ (by decide) _)) | (go_at_call 39; exact Calls.quiet_of_same (reg_any _ _ _))))
        go_wp2
        go_ret
        exact ⟨rfl, below_drewN ((Below.refl _ _).alloc (Nat.le_refl _) _) _⟩
      · by_cases s0 : L ≤ imm
        · have d0 : decide (L ≤ imm) = true := decide_eq_true s0
          by_cases s1 : imm ≤ H
          · have d1 : decide (imm ≤ H) = true := decide_eq_true s1
            have HS : Hid (inSpan L H T imm = decide (imm % T = 0)) := by
              show decide _ = decide _
              rw [decide_eq_decide]; exact ⟨fun h => h.2.2, fun h => ⟨s0, s1, h⟩⟩
            go_enter Tryz.func23, Tryz.ntmps23
            go_wp2_with fail
            refine (rform_to op F HF.out _).mono ?_
            rintro e w1 ⟨rfl, rfl⟩
            go_wp2_with fail
            refine (rspan_to F H8.out _ _ _ HL.out HH.out HT.out _).mono ?_
            rintro e w1 ⟨rfl, rfl⟩
            go_wp2_with fail
            go_quiet ((first | (go_at_call 40; exact Calls.quiet_of_same (inB_any _ _ (by decide) _)) | (go_at_call 39; exact Calls.quiet_of_same (reg_any _ _ _))))
            go_wp2
            go_ret
            exact ⟨ret_bool (by rw [HS.out, hdv.out]; rfl), below_drewN ((Below.refl _ _).alloc (Nat.le_refl _) _) _⟩
          · have d1 : decide (imm ≤ H) = false := decide_eq_false s1
            have HS : Hid (inSpan L H T imm = false) := decide_eq_false (fun h => s1 h.2.1)
            clear s1
            go_enter Tryz.func23, Tryz.ntmps23
            go_wp2_with fail
            refine (rform_to op F HF.out _).mono ?_
            rintro e w1 ⟨rfl, rfl⟩
            go_wp2_with fail
            refine (rspan_to F H8.out _ _ _ HL.out HH.out HT.out _).mono ?_
            rintro e w1 ⟨rfl, rfl⟩
            go_wp2_with fail
            go_quiet ((first | (go_at_call 40; exact Calls.quiet_of_same (inB_any _ _ (by decide) _)) | (go_at_call 39; exact Calls.quiet_of_same (reg_any _ _ _))))
            go_wp2
            go_ret
            exact ⟨ret_bool (by rw [HS.out]; rfl), below_drewN ((Below.refl _ _).alloc (Nat.le_refl _) _) _⟩
        · have d0 : decide (L ≤ imm) = false := decide_eq_false s0
          have HS : Hid (inSpan L H T imm = false) := decide_eq_false (fun h => s0 h.1)
          clear s0
          go_enter Tryz.func23, Tryz.ntmps23
          go_wp2_with fail
          refine (rform_to op F HF.out _).mono ?_
          rintro e w1 ⟨rfl, rfl⟩
          go_wp2_with fail
          refine (rspan_to F H8.out _ _ _ HL.out HH.out HT.out _).mono ?_
          rintro e w1 ⟨rfl, rfl⟩
          go_wp2_with fail
          go_quiet ((first | (go_at_call 40; exact Calls.quiet_of_same (inB_any _ _ (by decide) _)) | (go_at_call 39; exact Calls.quiet_of_same (reg_any _ _ _))))
          go_wp2
          go_ret
          exact ⟨ret_bool (by rw [HS.out]; rfl), below_drewN ((Below.refl _ _).alloc (Nat.le_refl _) _) _⟩

theorem rright_any (op rd rs1 rs2 imm : Int) (w : World) : Calls Tryz.prog 23 #[.agg #[.int .i64 op, .int .i64 rd, .int .i64 rs1, .int .i64 rs2, .int .i64 imm]] w fun e w' => e = .returned (.bool (right op rd rs1 rs2 imm)) ∧ Below w.heap.size w w' := by
  by_cases h : frm op = 0
  · have E : Hid (right op rd rs1 rs2 imm = false) := show _ = _ by unfold right; rw [h]; rfl
    have H : Hid (0 = frm op) := h.symm
    clear h
    go_enter Tryz.func23, Tryz.ntmps23
    go_wp2_with fail
    refine (rform_to op 0 H.out _).mono ?_
    rintro e w1 ⟨rfl, rfl⟩
    go_wp2_with fail
    refine (rspan_any 0 (.inr rfl) _).mono ?_
    rintro e w1 ⟨rfl, rfl⟩
    go_wp2_with fail
    go_quiet (fail)
    go_wp2
    go_ret
    exact ⟨ret_bool E.out.symm, below_drewN ((Below.refl _ _).alloc (Nat.le_refl _) _) _⟩
  · have h8 := (is8_frm op h).1
    have e : right op rd rs1 rs2 imm = (fit rd (hRd (frm op)) && fit rs1 (hRs1 (frm op)) && fit rs2 (hRs2 (frm op)) && inSpan (lo (frm op)) (hi (frm op)) (st (frm op)) imm) := by
      unfold right; rw [decide_eq_true h, Bool.true_and]
    rw [e]
    exact rright_core op rd rs1 rs2 imm _ rfl h8 _ _ _ (inB_Rd _ h8) (inB_Rs1 _ h8) (inB_Rs2 _ h8) _ _ _ rfl rfl rfl _ _ _ rfl rfl rfl (st_pos _) w
end Go.Proofs.YtcffpmicencfpabGreat
