/-
  Encode and Decode, one behind the other, as the laws meet them.
-/
import Derived.Test.YtoiheamdnlaahaaIM
namespace Go.Proofs.Ytoiheamdnlaahaa
open Go.RowKit Ip

/-- What is encoded is decoded as it was. -/
theorem dec_enc (op rd rs1 rs2 imm : Int) (h : right op rd rs1 rs2 imm = true) (w : World) :
    Calls Try.prog 9 #[.int .u32 ((enc op rd rs1 rs2 imm).toNat : Int)] w fun e w' => e = .returned (.tuple #[.agg #[.int .i64 op, .int .i64 rd, .int .i64 rs1, .int .i64 rs2, .int .i64 imm], .int .i64 0]) ∧ Below w.heap.size w w' := by
  have hne : frm op ≠ 0 := by intro c; unfold right at h; rw [c] at h; cases h
  obtain ⟨_, h0, h1⟩ := is8_frm op hne
  obtain ⟨k, rfl⟩ := Int.eq_ofNat_of_zero_le h0
  obtain ⟨a, e1, e2, e3, e4⟩ := there k (by omega) rd rs1 rs2 imm h
  have c := decode_kind _ k (by omega) a w
  rw [e1, e2, e3, e4] at c
  exact c
theorem enc_inj (op rd rs1 rs2 imm op' rd' rs1' rs2' imm' : Int) (h : right op rd rs1 rs2 imm = true) (h' : right op' rd' rs1' rs2' imm' = true) (e : enc op rd rs1 rs2 imm = enc op' rd' rs1' rs2' imm') : sameX op rd rs1 rs2 imm op' rd' rs1' rs2' imm' = true := by
  have hne : frm op ≠ 0 := by intro c; unfold right at h; rw [c] at h; cases h
  have hne' : frm op' ≠ 0 := by intro c; unfold right at h'; rw [c] at h'; cases h'
  obtain ⟨_, h0, h1⟩ := is8_frm op hne
  obtain ⟨_, h0', h1'⟩ := is8_frm op' hne'
  obtain ⟨k, rfl⟩ := Int.eq_ofNat_of_zero_le h0
  obtain ⟨k', rfl⟩ := Int.eq_ofNat_of_zero_le h0'
  obtain ⟨a, e1, e2, e3, e4⟩ := there k (by omega) rd rs1 rs2 imm h
  obtain ⟨a', e1', e2', e3', e4'⟩ := there k' (by omega) rd' rs1' rs2' imm' h'
  rw [e] at a e1 e2 e3 e4
  have ek := asked_one _ k k' (by omega) (by omega) a a'
  subst ek
  exact decide_eq_true ⟨rfl, e1.symm.trans e1', e2.symm.trans e2', e3.symm.trans e3', e4.symm.trans e4'⟩
theorem enc_ne (op rd rs1 rs2 imm op' rd' rs1' rs2' imm' : Int) (h : right op rd rs1 rs2 imm = true) (h' : right op' rd' rs1' rs2' imm' = true) (e : sameX op rd rs1 rs2 imm op' rd' rs1' rs2' imm' = false) : (((enc op rd rs1 rs2 imm).toNat : Int) == ((enc op' rd' rs1' rs2' imm').toNat : Int)) = false := by
  rw [beq_eq_false_iff_ne]
  intro c
  have := enc_inj _ _ _ _ _ _ _ _ _ _ h h' (BitVec.eq_of_toNat_eq (Int.natCast_inj.1 c))
  rw [e] at this; cases this
theorem sameX_self (a b c d e : Int) : sameX a b c d e a b c d e = true := decide_eq_true ⟨rfl, rfl, rfl, rfl, rfl⟩
theorem sameX_eq {a b c d e a' b' c' d' e' : Int} (h : sameX a b c d e a' b' c' d' e' = true) : a = a' ∧ b = b' ∧ c = c' ∧ d = d' ∧ e = e' := of_decide_eq_true h
theorem enc_to (x : BitVec 32) (k : Nat) (hk : k < 47) (h : asked x k = true) (F : Nat) (a b c n : Int) (hF : F = kf k) (ha : a = regIf (hRd F) x 7) (hb : b = regIf (hRs1 F) x 15) (hc : c = regIf (hRs2 F) x 20) (hn : n = number x F) :
    right (k : Int) a b c n = true ∧ enc (k : Int) a b c n = x := by
  subst ha hb hc hn hF; exact again k hk x h
theorem dec_to (x : BitVec 32) (k : Nat) (hk : k < 47) (h : asked x k = true) (F : Nat) (a b c n : Int) (hF : F = kf k) (ha : a = regIf (hRd F) x 7) (hb : b = regIf (hRs1 F) x 15) (hc : c = regIf (hRs2 F) x 20) (hn : n = number x F) (w : World) :
    Calls Try.prog 9 #[.int .u32 (x.toNat : Int)] w fun e w' => e = .returned (.tuple #[.agg #[.int .i64 (k : Int), .int .i64 a, .int .i64 b, .int .i64 c, .int .i64 n], .int .i64 0]) ∧ Below w.heap.size w w' := by
  subst ha hb hc hn hF; exact decode_kind x k hk h w
/-- What Decode answers: nothing, or an instruction that may be and whose word it is. -/
theorem dec_cases (x : BitVec 32) :
    (∀ w : World, Calls Try.prog 9 #[.int .u32 (x.toNat : Int)] w fun e w' => e = .returned (.tuple #[.agg #[.int .i64 0, .int .i64 0, .int .i64 0, .int .i64 0, .int .i64 0], .int .i64 20]) ∧ Below w.heap.size w w') ∨
    ∃ op a b c n : Int, right op a b c n = true ∧ enc op a b c n = x ∧ ∀ w : World, Calls Try.prog 9 #[.int .u32 (x.toNat : Int)] w fun e w' => e = .returned (.tuple #[.agg #[.int .i64 op, .int .i64 a, .int .i64 b, .int .i64 c, .int .i64 n], .int .i64 0]) ∧ Below w.heap.size w w' := by
  rcases kind_or x with ⟨k, hk, hx⟩ | hx
  · obtain ⟨hr, he⟩ := again k hk x hx
    exact .inr ⟨_, _, _, _, _, hr, he, fun w => decode_kind x k hk hx w⟩
  · exact .inl fun w => decode_none x hx w

end Go.Proofs.Ytoiheamdnlaahaa
