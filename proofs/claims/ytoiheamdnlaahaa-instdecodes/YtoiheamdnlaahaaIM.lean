/-
  Contract of the statements' own helper 'fixed': it answers true; what was in memory stays.
-/
import Derived.Test.YtoiheamdnlaahaaIL
namespace Go.Proofs.Ytoiheamdnlaahaa
open Go.RowKit Ip

theorem enc_lit (op rd rs1 rs2 imm v : Int) (h : right op rd rs1 rs2 imm = true) (hv : ((enc op rd rs1 rs2 imm).toNat : Int) = v) (w : World) : Calls Try.prog 12 #[.agg #[.int .i64 op, .int .i64 rd, .int .i64 rs1, .int .i64 rs2, .int .i64 imm]] w fun e w' => e = .returned (.tuple #[.int .u32 v, .int .i64 0]) ∧ Below w.heap.size w w' := by
  subst hv; exact encode_yes op rd rs1 rs2 imm h w
theorem dec_lit (w : World) : Calls Try.prog 9 #[.int .u32 4263546595] w fun e w' => e = .returned (.tuple #[.agg #[.int .i64 4, .int .i64 0, .int .i64 1, .int .i64 2, .int .i64 (-4)], .int .i64 0]) ∧ Below w.heap.size w w' := by
  have h := decode_kind (BitVec.ofNat 32 4263546595) 4 (by decide) (by decide +kernel) w
  have e1 : regIf (hRd (kf 4)) (BitVec.ofNat 32 4263546595) 7 = 0 := by decide +kernel
  have e2 : regIf (hRs1 (kf 4)) (BitVec.ofNat 32 4263546595) 15 = 1 := by decide +kernel
  have e3 : regIf (hRs2 (kf 4)) (BitVec.ofNat 32 4263546595) 20 = 2 := by decide +kernel
  have e4 : number (BitVec.ofNat 32 4263546595) (kf 4) = -4 := by decide +kernel
  rw [e1, e2, e3, e4] at h
  exact h
theorem dec_zero (w : World) : Calls Try.prog 9 #[.int .u32 0] w fun e w' => e = .returned (.tuple #[.agg #[.int .i64 0, .int .i64 0, .int .i64 0, .int .i64 0, .int .i64 0], .int .i64 20]) ∧ Below w.heap.size w w' :=
  decode_none (BitVec.ofNat 32 0) (by decide +kernel) w
theorem form_lit (op : Int) (v : Int) (h : ((frm op : Nat) : Int) = v) (w : World) : Calls Try.prog 18 #[.int .i64 op] w fun e w' => e = .returned (.int .u8 v) ∧ Below w.heap.size w w' := by
  subst h; exact form_any op w

set_option maxHeartbeats 1000000 in
theorem fixed_any (w : World) : Calls Try.prog 11 #[] w fun e w' => e = .returned (.bool true) ∧ Below w.heap.size w w' := by
  have hq := eqlX
  have hq2 : sameX 4 0 1 2 (-4) 4 0 1 2 (-4) = true := by decide
  go_enter Try.func11, Try.ntmps11
  go_wp2_with fail
  refine (enc_lit 18 1 2 0 (-5) 4289790099 (by decide +kernel) (by decide +kernel) _).mono ?_
  rintro e w1 ⟨rfl, h1⟩
  go_wp2_with fail
  refine (enc_lit 4 0 1 2 (-4) 4263546595 (by decide +kernel) (by decide +kernel) _).mono ?_
  rintro e w2 ⟨rfl, h2⟩
  go_wp2_with fail
  refine (enc_lit 2 1 0 0 2048 1048815 (by decide +kernel) (by decide +kernel) _).mono ?_
  rintro e w3 ⟨rfl, h3⟩
  go_wp2_with fail
  refine (dec_lit _).mono ?_
  rintro e w4 ⟨rfl, h4⟩
  go_wp2_with fail
  refine (dec_zero _).mono ?_
  rintro e w5 ⟨rfl, h5⟩
  obtain ⟨c5, f5⟩ := bcell h5
  have z5 : w4.heap.size < w5.heap.size := by have := h5.size; simp at this; omega
  go_wp2_with fail
  refine (encode_no 18 0 0 0 2048 (by decide +kernel) _).mono ?_
  rintro e w6 ⟨rfl, h6⟩
  obtain ⟨c6, f6⟩ := bcell h6
  have z6 : w4.heap.size < w6.heap.size := by have := h6.size; simp at this; omega
  go_wp2_with fail
  refine (form_lit 0 85 (by decide) _).mono ?_
  rintro e w7 ⟨rfl, h7⟩
  go_wp2_with fail
  refine (form_lit 47 0 (by decide) _).mono ?_
  rintro e w8 ⟨rfl, h8⟩
  go_wp2_with fail
  go_ret
  refine ⟨rfl, ?_⟩
  have b4 : Below w.heap.size w w4 := ((h1.trans (h2.mono h1.size)).trans (h3.mono (Nat.le_trans h1.size h2.size))).trans (h4.mono (Nat.le_trans h1.size (Nat.le_trans h2.size h3.size)))
  have s4 := b4.size
  have b5 : Below w.heap.size w w5 := (b4.alloc s4 _).trans (h5.mono (by simp; omega))
  have s5 := b5.size
  have b6 : Below w.heap.size w w6 := (b5.alloc s5 _).trans (h6.mono (by simp; omega))
  have s6 := b6.size
  exact (b6.trans (h7.mono s6)).trans (h8.mono (Nat.le_trans s6 h7.size))
end Go.Proofs.Ytoiheamdnlaahaa
