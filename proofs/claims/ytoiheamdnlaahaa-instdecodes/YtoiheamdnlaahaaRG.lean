/-
  Contract of the document's Encode, for every instruction that may be; the walk of InstEncodes: it answers true of any instruction.
-/
import Derived.Test.YtoiheamdnlaahaaRE
import Derived.Test.YtoiheamdnlaahaaRX
import Derived.Test.YtoiheamdnlaahaaIM
namespace Go.Proofs.Ytoiheamdnlaahaa
open Go.RowKit Ip

theorem fit_range {r : Int} {b : Bool} (h : fit r b = true) : 0 ≤ r ∧ r ≤ 31 := by
  cases b
  · have := fit_false h; omega
  · exact fit_true h
theorem refF (f o a b : Nat) (h8 : is8 f) (h9 : f ≠ 69) (ho : o < 128) (ha : a < 8) (hb : b < 128) (hU : (f = 85 ∨ f = 74) → a = 0 ∧ b = 0) (hI : (f = 73 ∨ f = 66 ∨ f = 83) → b = 0)
    (rd rs1 rs2 imm : Int) (g1 : fit rd (hRd f) = true) (g2 : fit rs1 (hRs1 f) = true) (g3 : fit rs2 (hRs2 f) = true) (W0 : BitVec 32) (hW : (o : Int) + 4096 * a + 33554432 * b + 128 * rd + 32768 * rs1 + 1048576 * rs2 = (W0.toNat : Int)) :
    orAll (BitVec.ofInt 32 imm) 0 (plc f) W0 = encF f o a b rd rs1 rs2 imm := by
  obtain ⟨a1, a2⟩ := fit_range g1
  obtain ⟨b1, b2⟩ := fit_range g2
  obtain ⟨c1, c2⟩ := fit_range g3
  rcases h8 with rfl | rfl | rfl | rfl | rfl | rfl | rfl | rfl
  · obtain ⟨rfl, rfl⟩ := hU (by decide)
    obtain rfl := fit_false g2; obtain rfl := fit_false g3
    exact ref_U o ho rd 0 0 imm a1 a2 W0 (by omega)
  · obtain ⟨rfl, rfl⟩ := hU (by decide)
    obtain rfl := fit_false g2; obtain rfl := fit_false g3
    exact ref_J o ho rd 0 0 imm a1 a2 W0 (by omega)
  · obtain rfl := hI (by decide)
    obtain rfl := fit_false g3
    exact ref_I o a ho ha rd rs1 0 imm a1 a2 b1 b2 W0 (by omega)
  · obtain rfl := fit_false g3
    exact ref_H o a b ho ha hb rd rs1 0 imm a1 a2 b1 b2 W0 (by omega)
  · obtain rfl := hI (by decide)
    obtain rfl := fit_false g1
    exact ref_B o a ho ha 0 rs1 rs2 imm b1 b2 c1 c2 W0 (by omega)
  · obtain rfl := hI (by decide)
    obtain rfl := fit_false g1
    exact ref_S o a ho ha 0 rs1 rs2 imm b1 b2 c1 c2 W0 (by omega)
  · exact ref_R o a b ho ha hb rd rs1 rs2 imm a1 a2 b1 b2 c1 c2 W0 (by omega)
  · exact absurd rfl h9
theorem kf_E (k : Nat) (h : k < 45) : kf k ≠ 69 := by
  have : ∀ k, k < 45 → kf k ≠ 69 := by decide +kernel
  exact this k h
theorem rencode_E (op : Int) (hk : op = 45 ∨ op = 46) (rd rs1 rs2 imm : Int) (hr : right op rd rs1 rs2 imm = true) (v : Int) (hv : v = if op = 45 then 115 else 1048691) (w : World) :
    Calls Try.prog 13 #[.agg #[.int .i64 op, .int .i64 rd, .int .i64 rs1, .int .i64 rs2, .int .i64 imm]] w fun e w' => e = .returned (.tuple #[.int .u32 v, .int .i64 0]) ∧ Below w.heap.size w w' := by
  have HV : Hid (v = if op = 45 then 115 else 1048691) := hv
  clear hv
  rcases hk with rfl | rfl
  all_goals
    go_enter Try.func13, Try.ntmps13
    go_wp2_with fail
    refine (rright_any _ rd rs1 rs2 imm _).mono ?_
    rintro e w1 ⟨rfl, hb1⟩
    rw [hr]
    obtain ⟨c1, _⟩ := bcell hb1
    have hz : w.heap.size < w1.heap.size := by have := hb1.size; simp at this; omega
    go_wp2_with fail
    go_ret2
    exact ⟨ret_two (by rw [HV.out]; rfl) rfl, ((Below.refl _ _).alloc (Nat.le_refl _) _).trans (hb1.mono (by simp))⟩
theorem rencode_yes (op rd rs1 rs2 imm : Int) (h : right op rd rs1 rs2 imm = true) (w : World) : Calls Try.prog 13 #[.agg #[.int .i64 op, .int .i64 rd, .int .i64 rs1, .int .i64 rs2, .int .i64 imm]] w fun e w' => e = .returned (.tuple #[.int .u32 ((enc op rd rs1 rs2 imm).toNat : Int), .int .i64 0]) ∧ Below w.heap.size w w' := by
  have hne : frm op ≠ 0 := by intro c; unfold right at h; rw [c] at h; cases h
  obtain ⟨_, h0, h1⟩ := is8_frm op hne
  obtain ⟨k, rfl⟩ := Int.eq_ofNat_of_zero_le h0
  have hk : k < 47 := by omega
  have hr := h
  rw [right_nat k hk, Bool.and_eq_true, Bool.and_eq_true, Bool.and_eq_true] at hr
  obtain ⟨⟨⟨g1, g2⟩, g3⟩, g4⟩ := hr
  obtain ⟨c1, c2, c3, c4, c5, c6, c7, _⟩ := kind_facts k hk
  by_cases hE : k < 45
  · refine (rencode_core k hE rd rs1 rs2 imm h (fit_range g1) (fit_range g2) (fit_range g3) _ _ _ _ rfl rfl rfl rfl c2 c3 c4 w).mono ?_
    rintro e w' ⟨W0, hW, he, hb⟩
    rw [refF _ _ _ _ c1 (kf_E k hE) c2 c3 c4 c5 c6 rd rs1 rs2 imm g1 g2 g3 W0 hW, ← enc_nat] at he
    exact ⟨he, hb⟩
  · have e : k = 45 ∨ k = 46 := by omega
    have hf : kf k = 69 := by rcases e with rfl | rfl <;> rfl
    rw [hf] at g1 g2 g3 g4
    obtain rfl := fit_false g1
    obtain rfl := fit_false g2
    obtain rfl := fit_false g3
    obtain ⟨s0, s1, _⟩ := span_of g4
    have hi0 : imm = 0 := by
      have : lo 69 = 0 := rfl
      have : hi 69 = 0 := rfl
      omega
    subst hi0
    refine rencode_E (k : Int) (by omega) 0 0 0 0 h _ ?_ w
    rcases e with rfl | rfl <;> decide +kernel

set_option maxHeartbeats 2000000 in
theorem instEncodes_walk (op rd rs1 rs2 imm : Int) (w : World) : Calls Try.prog 4 #[.agg #[.int .i64 op, .int .i64 rd, .int .i64 rs1, .int .i64 rs2, .int .i64 imm]] w fun e w' => e = .returned (.bool true) ∧ Below w.heap.size w w' := by
  cases hr : right op rd rs1 rs2 imm
  · go_enter Try.func4, Try.ntmps4
    go_wp2_with fail
    refine (encode_no op rd rs1 rs2 imm hr _).mono ?_
    rintro e w1 ⟨rfl, b1⟩
    have hX1 : HeldX w op rd rs1 rs2 imm w1 := (HeldX.start w op rd rs1 rs2 imm 24).below b1
    obtain ⟨x0, x1, x2, x3, x4, _, _⟩ := hX1
    go_wp2_with fail
    refine (rencode_no op rd rs1 rs2 imm hr _).mono ?_
    rintro e w2 ⟨rfl, b2⟩
    clear x0 x1 x2 x3 x4
    have HX : Hid (HeldX w op rd rs1 rs2 imm w2) := ((HeldX.start w op rd rs1 rs2 imm 24).below b1).below b2
    go_wp2_with fail
    go_region_held3 (fun w' => w'.cell? ⟨w.heap.size, 0, none⟩ = some (.int .i64 op) ∧ w'.cell? ⟨w.heap.size, 1, none⟩ = some (.int .i64 rd) ∧ w'.cell? ⟨w.heap.size, 2, none⟩ = some (.int .i64 rs1) ∧ w'.cell? ⟨w.heap.size, 3, none⟩ = some (.int .i64 rs2) ∧ w'.cell? ⟨w.heap.size, 4, none⟩ = some (.int .i64 imm) ∧ Below w.heap.size w w' ∧ w.heap.size < w'.heap.size)
      ((show HeldX w op rd rs1 rs2 imm _; with_reducible (repeat (first | assumption | exact HX.out | refine HeldX.drew ?_ | refine HeldX.alloc ?_ _))))
      (first
        | (go_at_call 11; refine (fixed_any _).mono ?_; rintro e w3 ⟨rfl, hk⟩; have hS : HeldX w op rd rs1 rs2 imm w3 := HeldX.below (by assumption) hk)
        | (go_at_call 14; refine (right_any _ _ _ _ _ _).mono ?_; rintro e w3 ⟨he, hk⟩; rw [hr] at he; subst he; have hS : HeldX w op rd rs1 rs2 imm w3 := HeldX.below (by assumption) hk)
        | (go_at_call 15; refine (rright_any _ _ _ _ _ _).mono ?_; rintro e w3 ⟨he, hk⟩; rw [hr] at he; subst he; have hS2 : HeldX w op rd rs1 rs2 imm w3 := HeldX.below (by assumption) hk))
    have hB := hS2.2.2.2.2.2.1
    go_wp2
    go_ret
    exact ⟨rfl, hB⟩
  · go_enter Try.func4, Try.ntmps4
    go_wp2_with fail
    refine (encode_yes op rd rs1 rs2 imm hr _).mono ?_
    rintro e w1 ⟨rfl, b1⟩
    have hX1 : HeldX w op rd rs1 rs2 imm w1 := (HeldX.start w op rd rs1 rs2 imm 24).below b1
    obtain ⟨x0, x1, x2, x3, x4, _, _⟩ := hX1
    go_wp2_with fail
    refine (rencode_yes op rd rs1 rs2 imm hr _).mono ?_
    rintro e w2 ⟨rfl, b2⟩
    clear x0 x1 x2 x3 x4
    have HX : Hid (HeldX w op rd rs1 rs2 imm w2) := ((HeldX.start w op rd rs1 rs2 imm 24).below b1).below b2
    go_wp2_with fail
    go_region_held3 (fun w' => w'.cell? ⟨w.heap.size, 0, none⟩ = some (.int .i64 op) ∧ w'.cell? ⟨w.heap.size, 1, none⟩ = some (.int .i64 rd) ∧ w'.cell? ⟨w.heap.size, 2, none⟩ = some (.int .i64 rs1) ∧ w'.cell? ⟨w.heap.size, 3, none⟩ = some (.int .i64 rs2) ∧ w'.cell? ⟨w.heap.size, 4, none⟩ = some (.int .i64 imm) ∧ Below w.heap.size w w' ∧ w.heap.size < w'.heap.size)
      ((show HeldX w op rd rs1 rs2 imm _; with_reducible (repeat (first | assumption | exact HX.out | refine HeldX.drew ?_ | refine HeldX.alloc ?_ _))))
      (first
        | (go_at_call 11; refine (fixed_any _).mono ?_; rintro e w3 ⟨rfl, hk⟩; have hS : HeldX w op rd rs1 rs2 imm w3 := HeldX.below (by assumption) hk)
        | (go_at_call 14; refine (right_any _ _ _ _ _ _).mono ?_; rintro e w3 ⟨he, hk⟩; rw [hr] at he; subst he; have hS : HeldX w op rd rs1 rs2 imm w3 := HeldX.below (by assumption) hk)
        | (go_at_call 15; refine (rright_any _ _ _ _ _ _).mono ?_; rintro e w3 ⟨he, hk⟩; rw [hr] at he; subst he; have hS2 : HeldX w op rd rs1 rs2 imm w3 := HeldX.below (by assumption) hk))
    have hB := hS2.2.2.2.2.2.1
    go_wp2
    go_ret
    exact ⟨rfl, hB⟩
end Go.Proofs.Ytoiheamdnlaahaa
