/-
  The walk of InstBits: it answers true of any instruction and any number.
-/
import Derived.Test.YtoiheamdnlaahaaIM
namespace Go.Proofs.Ytoiheamdnlaahaa
open Go.RowKit Ip

theorem and5 (c : Int) : ∃ d : Int, 0 ≤ d ∧ d ≤ 31 ∧ bits .and .i64 c 31 = d := by
  refine ⟨_, ?_, ?_, rfl⟩
  all_goals
    have e : bits .and .i64 c 31 = IntKind.i64.wrap ((BitVec.ofInt 64 c &&& BitVec.ofInt 64 31).toNat : Int) := rfl
    have m : (BitVec.ofInt 64 c &&& BitVec.ofInt 64 31).toNat = (BitVec.ofInt 64 c).toNat % 32 := by
      rw [BitVec.toNat_and]; exact Nat.and_two_pow_sub_one_eq_mod _ 5
    rw [e, m, IntKind.wrap_i64]; omega

/-- Two words that are the same but for the bits 7 to 11. -/
def agree (x y : BitVec 32) : Prop := ∀ i, i < 32 → (i < 7 ∨ 12 ≤ i) → x.getLsbD i = y.getLsbD i
theorem agree_put {x y : BitVec 32} (h : agree x y) (a n : Int) (v : BitVec 32) : agree (Wd.put x a n v) (Wd.put y a n v) := by
  intro i hi hj
  by_cases hw : Wd.within a n = true
  · rw [Wd.put_get x a n v hw i hi, Wd.put_get y a n v hw i hi, h i hi hj]
  · unfold Wd.put; rw [if_neg hw, if_neg hw]; exact h i hi hj
theorem agree_putIf {x y : BitVec 32} (h : agree x y) (c : Bool) (a r : Int) : agree (putIf c x a r) (putIf c y a r) := by
  cases c
  · exact h
  · exact agree_put h a 5 _
theorem agree_first (t u v : BitVec 32) : agree (Wd.put t 7 5 u) (Wd.put t 7 5 v) := by
  intro i hi hj
  have b : ¬ ((7 : Int).toNat ≤ i ∧ i < (7 : Int).toNat + (5 : Int).toNat) := by
    intro c
    have c1 : 7 ≤ i := c.1
    have c2 : i < 12 := c.2
    omega
  rw [Wd.put_get t 7 5 u (by decide) i hi, Wd.put_get t 7 5 v (by decide) i hi, if_neg b, if_neg b]
theorem agree_enc (op rd d rs1 rs2 imm : Int) : agree (enc op rd rs1 rs2 imm) (enc op d rs1 rs2 imm) := by
  unfold enc
  apply agree_putIf
  apply agree_putIf
  cases hRd (frm op)
  · intro i _ _; rfl
  · exact agree_first _ _ _
theorem bits3968 : ∀ i : Fin 32, (BitVec.ofNat 32 3968).getLsbD i = decide (7 ≤ i.val ∧ i.val < 12) := by decide
theorem agree_zero {x y : BitVec 32} (h : agree x y) : (x ^^^ y) &&& ~~~ (BitVec.ofNat 32 3968) = BitVec.ofNat 32 0 := by
  apply BitVec.eq_of_getLsbD_eq; intro i hi
  rw [BitVec.getLsbD_and, BitVec.getLsbD_xor, BitVec.getLsbD_not, bits3968 ⟨i, hi⟩]
  by_cases hj : i < 7 ∨ 12 ≤ i
  · rw [h i hi hj]; simp
  · have : (7 ≤ i ∧ i < 12) := by omega
    simp [this]
theorem bits_zero (op rd d rs1 rs2 imm : Int) : (bits .andNot .u32 (bits .xor .u32 ((enc op rd rs1 rs2 imm).toNat : Int) ((enc op d rs1 rs2 imm).toNat : Int)) 3968 == 0) = true := by
  rw [Wd.xor_, show (3968 : Int) = ((BitVec.ofNat 32 3968).toNat : Int) from rfl, Wd.andNot_, agree_zero (agree_enc op rd d rs1 rs2 imm)]; rfl

set_option maxHeartbeats 1000000 in
theorem instBits_walk (op r rs1 rs2 imm : Int) (rd : Int) (w : World) : Calls Try.prog 8 #[.agg #[.int .i64 op, .int .i64 r, .int .i64 rs1, .int .i64 rs2, .int .i64 imm], .int .i64 rd] w fun e w' => e = .returned (.bool true) ∧ Below w.heap.size w w' := by
  obtain ⟨d, _, _, hd⟩ := and5 rd
  have tz := bits_zero op r d rs1 rs2 imm
  cases h1 : right op r rs1 rs2 imm
  · go_enter Try.func8, Try.ntmps8
    go_wp2_with fail
    refine (encode_no op r rs1 rs2 imm h1 _).mono ?_
    rintro e w1 ⟨rfl, b1⟩
    obtain ⟨c1, f1⟩ := bcell b1
    have g1 : Below w.heap.size w w1 := (((Below.refl _ _).alloc (Nat.le_refl _) _).alloc (by simp) _).trans (b1.mono (by simp; omega))
    cases h2 : right op d rs1 rs2 imm
    · go_wp2_with fail
      refine (encode_no op d rs1 rs2 imm h2 _).mono ?_
      rintro e w2 ⟨rfl, b2⟩
      go_wp2_with fail
      refine (fixed_any _).mono ?_
      rintro e w3 ⟨rfl, b3⟩
      go_wp2_with fail
      go_ret
      exact ⟨rfl, (g1.trans (b2.mono g1.size)).trans (b3.mono (Nat.le_trans g1.size b2.size))⟩
    · go_wp2_with fail
      refine (encode_yes op d rs1 rs2 imm h2 _).mono ?_
      rintro e w2 ⟨rfl, b2⟩
      go_wp2_with fail
      refine (fixed_any _).mono ?_
      rintro e w3 ⟨rfl, b3⟩
      go_wp2_with fail
      go_ret
      exact ⟨rfl, (g1.trans (b2.mono g1.size)).trans (b3.mono (Nat.le_trans g1.size b2.size))⟩
  · go_enter Try.func8, Try.ntmps8
    go_wp2_with fail
    refine (encode_yes op r rs1 rs2 imm h1 _).mono ?_
    rintro e w1 ⟨rfl, b1⟩
    obtain ⟨c1, f1⟩ := bcell b1
    have g1 : Below w.heap.size w w1 := (((Below.refl _ _).alloc (Nat.le_refl _) _).alloc (by simp) _).trans (b1.mono (by simp; omega))
    cases h2 : right op d rs1 rs2 imm
    · go_wp2_with fail
      refine (encode_no op d rs1 rs2 imm h2 _).mono ?_
      rintro e w2 ⟨rfl, b2⟩
      go_wp2_with fail
      refine (fixed_any _).mono ?_
      rintro e w3 ⟨rfl, b3⟩
      go_wp2_with fail
      go_ret
      exact ⟨rfl, (g1.trans (b2.mono g1.size)).trans (b3.mono (Nat.le_trans g1.size b2.size))⟩
    · go_wp2_with fail
      refine (encode_yes op d rs1 rs2 imm h2 _).mono ?_
      rintro e w2 ⟨rfl, b2⟩
      go_wp2_with fail
      refine (fixed_any _).mono ?_
      rintro e w3 ⟨rfl, b3⟩
      go_wp2_with fail
      go_ret
      exact ⟨rfl, (g1.trans (b2.mono g1.size)).trans (b3.mono (Nat.le_trans g1.size b2.size))⟩
end Go.Proofs.Ytoiheamdnlaahaa
