/-
  The walk of InstSteps: it answers true of any kind and any number.
-/
import Derived.Test.YtoiheamdnlaahabIM
namespace Go.Proofs.Ytoiheamdnlaahab
open Go.RowKit Ip

theorem and1 (c : Int) : bits .and .i64 c 1 = c % 2 := by
  have e : bits .and .i64 c 1 = IntKind.i64.wrap ((BitVec.ofInt 64 c &&& BitVec.ofInt 64 1).toNat : Int) := rfl
  have m : (BitVec.ofInt 64 c &&& BitVec.ofInt 64 1).toNat = (BitVec.ofInt 64 c).toNat % 2 := by
    rw [BitVec.toNat_and]; exact Nat.and_two_pow_sub_one_eq_mod _ 1
  rw [e, m, BitVec.toNat_ofInt, IntKind.wrap_i64]; omega
/-- An instruction with no registers and the number n: it may be just if its kind is one and n is in its span. -/
theorem right_bare (op n : Int) : right op 0 0 0 n = (decide (frm op ≠ 0) && inSpan (lo (frm op)) (hi (frm op)) (st (frm op)) n) := by
  have f : ∀ b, fit 0 b = true := fun b => by cases b <;> rfl
  unfold right; rw [f, f, f, Bool.and_true, Bool.and_true, Bool.and_true]
theorem right_f (op n : Int) (f : Nat) (hf : frm op = f) (h0 : f ≠ 0) : right op 0 0 0 n = inSpan (lo f) (hi f) (st f) n := by
  rw [right_bare, hf, decide_eq_true h0, Bool.true_and]
theorem rightX (op n : Int) (r : Bool) (hr : right op 0 0 0 n = r) (w : World) : Calls Try.prog 7 #[.agg #[.int .i64 op, .int .i64 0, .int .i64 0, .int .i64 0, .int .i64 n]] w fun e w' => e = .returned (.bool r) ∧ Below w.heap.size w w' := by
  subst hr; exact right_any op 0 0 0 n w
theorem steps_zero (op n : Int) (w : World) (HF : Hid (((frm op : Nat) : Int) = 0)) (HR : Hid (right op 0 0 0 n = false)) : Calls Try.prog 3 #[.int .i64 op, .int .i64 n] w fun e w' => e = .returned (.bool true) ∧ Below w.heap.size w w' := by
  go_enter Try.func3, Try.ntmps3
  go_wp2_with fail
  refine (form_lit op _ HF.out _).mono ?_
  rintro e w1 ⟨rfl, b1⟩
  go_wp2_with fail
  refine (rightX op _ _ HR.out _).mono ?_
  rintro e w2 ⟨rfl, b2⟩
  go_wp2_with fail
  refine (fixed_any _).mono ?_
  rintro e w3 ⟨rfl, b3⟩
  go_wp2_with fail
  go_ret
  have g2 := (b1.alloc b1.size _).trans (b2.mono (by simp; have := b1.size; omega))
  exact ⟨rfl, g2.trans (b3.mono g2.size)⟩

theorem steps_odd (op n : Int) (w : World) (f : Nat) (h : f = 66 ∨ f = 74) (ho : (bits .and .i64 n 1 == 1) = true) (HF : Hid (((frm op : Nat) : Int) = f)) (HR : Hid (right op 0 0 0 n = false)) : Calls Try.prog 3 #[.int .i64 op, .int .i64 n] w fun e w' => e = .returned (.bool true) ∧ Below w.heap.size w w' := by
  rcases h with rfl | rfl
  all_goals
    go_enter Try.func3, Try.ntmps3
    go_wp2_with fail
    refine (form_lit op _ HF.out _).mono ?_
    rintro e w1 ⟨rfl, b1⟩
    go_wp2_with fail
    refine (rightX op _ _ HR.out _).mono ?_
    rintro e w2 ⟨rfl, b2⟩
    go_wp2_with fail
    refine (fixed_any _).mono ?_
    rintro e w3 ⟨rfl, b3⟩
    go_wp2_with fail
    go_ret
    have g2 := (b1.alloc b1.size _).trans (b2.mono (by simp; have := b1.size; omega))
    exact ⟨rfl, g2.trans (b3.mono g2.size)⟩

theorem steps_none (op n : Int) (w : World) (f : Nat) (h : f = 82 ∨ f = 69) (r : Bool) (hr : (n == 0) = r) (HF : Hid (((frm op : Nat) : Int) = f)) (HR : Hid (right op 0 0 0 n = r)) : Calls Try.prog 3 #[.int .i64 op, .int .i64 n] w fun e w' => e = .returned (.bool true) ∧ Below w.heap.size w w' := by
  rcases h with rfl | rfl
  all_goals
    cases r
    all_goals
      go_enter Try.func3, Try.ntmps3
      go_wp2_with fail
      refine (form_lit op _ HF.out _).mono ?_
      rintro e w1 ⟨rfl, b1⟩
      go_wp2_with fail
      refine (rightX op _ _ HR.out _).mono ?_
      rintro e w2 ⟨rfl, b2⟩
      go_wp2_with fail
      refine (fixed_any _).mono ?_
      rintro e w3 ⟨rfl, b3⟩
      go_wp2_with fail
      go_ret
      have g2 := (b1.alloc b1.size _).trans (b2.mono (by simp; have := b1.size; omega))
      exact ⟨rfl, g2.trans (b3.mono g2.size)⟩

theorem steps_even (op n : Int) (w : World) (f : Nat) (h : f = 66 ∨ f = 74) (r : Bool) (ho : (bits .and .i64 n 1 == 1) = false) (HF : Hid (((frm op : Nat) : Int) = f)) (HR : Hid (right op 0 0 0 n = r)) (hb : r = true → -1048576 ≤ n ∧ n < 1048576) (HR0 : Hid (right op 0 0 0 0 = true)) : Calls Try.prog 3 #[.int .i64 op, .int .i64 n] w fun e w' => e = .returned (.bool true) ∧ Below w.heap.size w w' := by
  rcases h with rfl | rfl
  all_goals
    cases r
    · clear hb
      go_enter Try.func3, Try.ntmps3
      go_wp2_with fail
      refine (form_lit op _ HF.out _).mono ?_
      rintro e w1 ⟨rfl, b1⟩
      go_wp2_with fail
      refine (rightX op _ _ HR.out _).mono ?_
      rintro e w2 ⟨rfl, b2⟩
      go_wp2_with fail
      refine (rightX op 0 true HR0.out _).mono ?_
      rintro e w3 ⟨rfl, b3⟩
      go_wp2_with fail
      refine (fixed_any _).mono ?_
      rintro e w4 ⟨rfl, b4⟩
      go_wp2_with fail
      go_ret
      have g2 := (b1.alloc b1.size _).trans (b2.mono (by simp; have := b1.size; omega))
      have g3 := g2.trans (b3.mono g2.size)
      exact ⟨rfl, g3.trans (b4.mono g3.size)⟩
    · obtain ⟨m0, m1⟩ := hb rfl
      clear hb
      go_enter Try.func3, Try.ntmps3
      go_wp2_with fail
      refine (form_lit op _ HF.out _).mono ?_
      rintro e w1 ⟨rfl, b1⟩
      go_wp2_with fail
      refine (rightX op _ _ HR.out _).mono ?_
      rintro e w2 ⟨rfl, b2⟩
      go_wp2_with fail
      refine (rightX op 0 true HR0.out _).mono ?_
      rintro e w3 ⟨rfl, b3⟩
      go_wp2_with fail
      refine (fixed_any _).mono ?_
      rintro e w4 ⟨rfl, b4⟩
      go_wp2_with fail
      go_ret
      have g2 := (b1.alloc b1.size _).trans (b2.mono (by simp; have := b1.size; omega))
      have g3 := g2.trans (b3.mono g2.size)
      exact ⟨rfl, g3.trans (b4.mono g3.size)⟩

theorem steps_other (op n : Int) (w : World) (f : Nat) (h : f = 85 ∨ f = 73 ∨ f = 72 ∨ f = 83) (r : Bool) (HF : Hid (((frm op : Nat) : Int) = f)) (HR : Hid (right op 0 0 0 n = r)) (hb : r = true → -1048576 ≤ n ∧ n < 1048576) (HR0 : Hid (right op 0 0 0 0 = true)) : Calls Try.prog 3 #[.int .i64 op, .int .i64 n] w fun e w' => e = .returned (.bool true) ∧ Below w.heap.size w w' := by
  rcases h with rfl | rfl | rfl | rfl
  all_goals
    cases r
    · clear hb
      go_enter Try.func3, Try.ntmps3
      go_wp2_with fail
      refine (form_lit op _ HF.out _).mono ?_
      rintro e w1 ⟨rfl, b1⟩
      go_wp2_with fail
      refine (rightX op _ _ HR.out _).mono ?_
      rintro e w2 ⟨rfl, b2⟩
      go_wp2_with fail
      refine (rightX op 0 true HR0.out _).mono ?_
      rintro e w3 ⟨rfl, b3⟩
      go_wp2_with fail
      refine (fixed_any _).mono ?_
      rintro e w4 ⟨rfl, b4⟩
      go_wp2_with fail
      go_ret
      have g2 := (b1.alloc b1.size _).trans (b2.mono (by simp; have := b1.size; omega))
      have g3 := g2.trans (b3.mono g2.size)
      exact ⟨rfl, g3.trans (b4.mono g3.size)⟩
    · obtain ⟨m0, m1⟩ := hb rfl
      clear hb
      go_enter Try.func3, Try.ntmps3
      go_wp2_with fail
      refine (form_lit op _ HF.out _).mono ?_
      rintro e w1 ⟨rfl, b1⟩
      go_wp2_with fail
      refine (rightX op _ _ HR.out _).mono ?_
      rintro e w2 ⟨rfl, b2⟩
      go_wp2_with fail
      refine (rightX op 0 true HR0.out _).mono ?_
      rintro e w3 ⟨rfl, b3⟩
      go_wp2_with fail
      refine (fixed_any _).mono ?_
      rintro e w4 ⟨rfl, b4⟩
      go_wp2_with fail
      go_ret
      have g2 := (b1.alloc b1.size _).trans (b2.mono (by simp; have := b1.size; omega))
      have g3 := g2.trans (b3.mono g2.size)
      exact ⟨rfl, g3.trans (b4.mono g3.size)⟩

theorem instSteps_walk (op n : Int) (w : World) : Calls Try.prog 3 #[.int .i64 op, .int .i64 n] w fun e w' => e = .returned (.bool true) ∧ Below w.heap.size w w' := by
  by_cases h : frm op = 0
  · exact steps_zero op n w (show _ = _ by rw [h]; rfl) (show _ = _ by rw [right_bare, h]; rfl)
  · have h8 := (is8_frm op h).1
    obtain ⟨f, hf⟩ : ∃ f, frm op = f := ⟨_, rfl⟩
    have HF : Hid (((frm op : Nat) : Int) = f) := show _ = _ by rw [hf]
    have hr := right_f op n f hf (hf ▸ h)
    have hr0 := right_f op 0 f hf (hf ▸ h)
    rw [hf] at h8
    have HR : Hid (right op 0 0 0 n = inSpan (lo f) (hi f) (st f) n) := hr
    have HR0 : Hid (right op 0 0 0 0 = true) := by
      show _ = _
      rw [hr0]
      rcases h8 with rfl | rfl | rfl | rfl | rfl | rfl | rfl | rfl <;> decide
    have hb : inSpan (lo f) (hi f) (st f) n = true → -1048576 ≤ n ∧ n < 1048576 := by
      intro hs
      obtain ⟨s0, s1, _⟩ := span_of hs
      have : -1048576 ≤ lo f ∧ hi f ≤ 1048575 := by rcases h8 with rfl | rfl | rfl | rfl | rfl | rfl | rfl | rfl <;> decide
      omega
    have hodd := and1 n
    by_cases hBJ : f = 66 ∨ f = 74
    · by_cases ho : n % 2 = 1
      · refine steps_odd op n w f hBJ (by rw [hodd, ho]; rfl) HF ?_
        show _ = _
        rw [hr]
        apply decide_eq_false
        have : st f = 2 := by rcases hBJ with rfl | rfl <;> rfl
        rw [this]; omega
      · exact steps_even op n w f hBJ _ (by rw [hodd, beq_eq_false_iff_ne]; exact ho) HF HR hb HR0
    · by_cases hRE : f = 82 ∨ f = 69
      · refine steps_none op n w f hRE _ ?_ HF HR
        have e : lo f = 0 ∧ hi f = 0 ∧ st f = 1 := by rcases hRE with rfl | rfl <;> decide
        unfold inSpan
        rw [e.1, e.2.1, e.2.2, Bool.eq_iff_iff, beq_iff_eq, decide_eq_true_eq]; omega
      · refine steps_other op n w f ?_ _ HF HR hb HR0
        unfold is8 at h8; omega
end Go.Proofs.Ytoiheamdnlaahab
