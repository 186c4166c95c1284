/-
  Words and instructions there and back, form by form. No program in sight.
-/
import Derived.Test.YtilphdfobflbiaaIR
namespace Go.Proofs.Ytilphdfobflbiaa
open Go.RowKit
namespace Ip

/-- What is asked of a word, for a kind of the form f with these bits. -/
def asksF (f o a b : Nat) (x : BitVec 32) : Bool := ((o : Int) == ((Wd.field x 0 7).toNat : Int)) && told f o a b x ((Wd.field x 12 3).toNat : Int) ((Wd.field x 25 7).toNat : Int)
def encF (f o a b : Nat) (rd rs1 rs2 imm : Int) : BitVec 32 := putIf (hRs2 f) (putIf (hRs1 f) (putIf (hRd f) (wnV (stemW f o a b) f imm 4) 7 rd) 15 rs1) 20 rs2
theorem reg_nat (r : Int) (h0 : 0 ≤ r) (h1 : r ≤ 31) : (BitVec.ofInt 32 r).toNat % 2 ^ 5 = r.toNat := by
  have := ofInt_nat r; omega
theorem reg_back (n : Nat) (hn : n < 32) : (BitVec.ofInt 32 (n : Int)).toNat % 2 ^ 5 = n := by
  have := ofInt_nat (n : Int); omega
theorem fit_true {r : Int} (h : fit r true = true) : 0 ≤ r ∧ r ≤ 31 := by unfold fit at h; rw [if_pos rfl] at h; exact of_decide_eq_true h
theorem fit_false {r : Int} (h : fit r false = true) : r = 0 := by unfold fit at h; rw [if_neg (by decide)] at h; exact of_decide_eq_true h
theorem fit_mk (n : Nat) (h : n < 32) : fit (n : Int) true = true := by unfold fit; rw [if_pos rfl]; exact decide_eq_true (by omega)
theorem fit_zero : fit 0 false = true := rfl
theorem span_of {a b c n : Int} (h : inSpan a b c n = true) : a ≤ n ∧ n ≤ b ∧ n % c = 0 := of_decide_eq_true h
theorem span_mk {a b c n : Int} (h0 : a ≤ n) (h1 : n ≤ b) (h2 : n % c = 0) : inSpan a b c n = true := decide_eq_true ⟨h0, h1, h2⟩
theorem beq_nat {a b : Nat} : ((a : Int) == (b : Int)) = true ↔ a = b := by rw [beq_iff_eq]; omega
theorem encF_U (o : Nat) (rd rs1 rs2 imm : Int) : encF 85 o 0 0 rd rs1 rs2 imm = (Wd.put (Wd.put (stemW 85 o 0 0) 12 20 (Wd.field (BitVec.ofInt 32 imm) 0 20)) 7 5 (BitVec.ofInt 32 rd)) := by
  have e : encF 85 o 0 0 rd rs1 rs2 imm = (Wd.put (Wd.put (Wd.put (Wd.put (Wd.put (stemW 85 o 0 0) 12 20 (Wd.field (BitVec.ofInt 32 imm) 0 20)) 0 0 (Wd.field (BitVec.ofInt 32 imm) 0 0)) 0 0 (Wd.field (BitVec.ofInt 32 imm) 0 0)) 0 0 (Wd.field (BitVec.ofInt 32 imm) 0 0)) 7 5 (BitVec.ofInt 32 rd)) := rfl
  rw [e, put_none, put_none, put_none]
theorem there_U (o : Nat) (ho : o < 128) (rd rs1 rs2 imm : Int) (g1 : fit rd true = true) (g2 : fit rs1 false = true) (g3 : fit rs2 false = true) (g4 : inSpan (lo 85) (hi 85) (st 85) imm = true) :
    asksF 85 o 0 0 (encF 85 o 0 0 rd rs1 rs2 imm) = true ∧ regIf true (encF 85 o 0 0 rd rs1 rs2 imm) 7 = rd ∧ regIf false (encF 85 o 0 0 rd rs1 rs2 imm) 15 = rs1 ∧ regIf false (encF 85 o 0 0 rd rs1 rs2 imm) 20 = rs2 ∧ number (encF 85 o 0 0 rd rs1 rs2 imm) 85 = imm := by
  rw [encF_U]
  obtain ⟨q0, q1, q2⟩ := fields_U (stemW 85 o 0 0) (Wd.field (BitVec.ofInt 32 imm) 0 20) (BitVec.ofInt 32 rd) o ho (by rw [stem_nat 85 o 0 0 (by decide) ho (by omega) (by omega)]; omega)
  generalize (Wd.put (Wd.put (stemW 85 o 0 0) 12 20 (Wd.field (BitVec.ofInt 32 imm) 0 20)) 7 5 (BitVec.ofInt 32 rd)) = W at *
  have z0 := field_nat W 0 7 0 7 rfl rfl (by omega) (by omega)
  rw [q2] at z0
  refine ⟨?_, ?_, ?_, ?_, ?_⟩
  · show ((((o : Nat) : Int) == _) && true) = true; rw [z0]; simp
  · have := fit_true g1
    show ((Wd.field W 7 5).toNat : Int) = _
    rw [field_nat W 7 5 7 5 rfl rfl (by omega) (by omega), q1, reg_nat _ this.1 this.2]; omega
  · exact (fit_false g2).symm
  · exact (fit_false g3).symm
  · obtain ⟨s0, s1, s2⟩ := span_of g4
    rw [number_U, q0, field_nat (BitVec.ofInt 32 imm) 0 20 0 20 rfl rfl (by omega) (by omega), Nat.mod_mod]
    exact back_U imm s0 s1 s2
theorem again_U (o : Nat) (ho : o < 128) (x : BitVec 32) (h : asksF 85 o 0 0 x = true) :
    fit (regIf true x 7) true = true ∧ fit (regIf false x 15) false = true ∧ fit (regIf false x 20) false = true ∧ inSpan (lo 85) (hi 85) (st 85) (number x 85) = true ∧ encF 85 o 0 0 (regIf true x 7) (regIf false x 15) (regIf false x 20) (number x 85) = x := by
  have z0 := field_nat x 0 7 0 7 rfl rfl (by omega) (by omega)
  have h' : ((((o : Nat) : Int) == ((Wd.field x 0 7).toNat : Int)) && true) = true := h
  rw [Bool.and_true, beq_nat, z0] at h'
  have w0 := h'
  have hd := digits_U (x.toNat / 2 ^ 12 % 2 ^ 20) (Nat.mod_lt _ (by decide))
  rw [← number_U x] at hd
  obtain ⟨s0, s1, s2, v0⟩ := hd
  have y7 := field_nat x 7 5 7 5 rfl rfl (by omega) (by omega)
  have l7 : x.toNat / 2 ^ 7 % 2 ^ 5 < 32 := Nat.mod_lt _ (by decide)
  refine ⟨fit_mk _ (by rw [y7]; exact l7), fit_zero, fit_zero, span_mk s0 s1 s2, ?_⟩
  rw [encF_U]
  obtain ⟨q0, q1, q2⟩ := fields_U (stemW 85 o 0 0) (Wd.field (BitVec.ofInt 32 (number x 85)) 0 20) (BitVec.ofInt 32 (regIf true x 7)) o ho (by rw [stem_nat 85 o 0 0 (by decide) ho (by omega) (by omega)]; omega)
  generalize (Wd.put (Wd.put (stemW 85 o 0 0) 12 20 (Wd.field (BitVec.ofInt 32 (number x 85)) 0 20)) 7 5 (BitVec.ofInt 32 (regIf true x 7))) = W at *
  exact eq_U W x (by rw [q2]; exact w0) (by rw [q1]; exact (reg_back _ (by rw [y7]; exact l7)).trans y7) (by rw [q0, field_nat (BitVec.ofInt 32 (number x 85)) 0 20 0 20 rfl rfl (by omega) (by omega), Nat.mod_mod]; exact v0)
theorem encF_J (o : Nat) (rd rs1 rs2 imm : Int) : encF 74 o 0 0 rd rs1 rs2 imm = (Wd.put (Wd.put (Wd.put (Wd.put (Wd.put (stemW 74 o 0 0) 31 1 (Wd.field (BitVec.ofInt 32 imm) 20 1)) 12 8 (Wd.field (BitVec.ofInt 32 imm) 12 8)) 20 1 (Wd.field (BitVec.ofInt 32 imm) 11 1)) 21 10 (Wd.field (BitVec.ofInt 32 imm) 1 10)) 7 5 (BitVec.ofInt 32 rd)) := by
  have e : encF 74 o 0 0 rd rs1 rs2 imm = (Wd.put (Wd.put (Wd.put (Wd.put (Wd.put (stemW 74 o 0 0) 31 1 (Wd.field (BitVec.ofInt 32 imm) 20 1)) 12 8 (Wd.field (BitVec.ofInt 32 imm) 12 8)) 20 1 (Wd.field (BitVec.ofInt 32 imm) 11 1)) 21 10 (Wd.field (BitVec.ofInt 32 imm) 1 10)) 7 5 (BitVec.ofInt 32 rd)) := rfl
  rw [e]
theorem there_J (o : Nat) (ho : o < 128) (rd rs1 rs2 imm : Int) (g1 : fit rd true = true) (g2 : fit rs1 false = true) (g3 : fit rs2 false = true) (g4 : inSpan (lo 74) (hi 74) (st 74) imm = true) :
    asksF 74 o 0 0 (encF 74 o 0 0 rd rs1 rs2 imm) = true ∧ regIf true (encF 74 o 0 0 rd rs1 rs2 imm) 7 = rd ∧ regIf false (encF 74 o 0 0 rd rs1 rs2 imm) 15 = rs1 ∧ regIf false (encF 74 o 0 0 rd rs1 rs2 imm) 20 = rs2 ∧ number (encF 74 o 0 0 rd rs1 rs2 imm) 74 = imm := by
  rw [encF_J]
  obtain ⟨q0, q1, q2, q3, q4, q5⟩ := fields_J (stemW 74 o 0 0) (Wd.field (BitVec.ofInt 32 imm) 20 1) (Wd.field (BitVec.ofInt 32 imm) 12 8) (Wd.field (BitVec.ofInt 32 imm) 11 1) (Wd.field (BitVec.ofInt 32 imm) 1 10) (BitVec.ofInt 32 rd) o ho (by rw [stem_nat 74 o 0 0 (by decide) ho (by omega) (by omega)]; omega)
  generalize (Wd.put (Wd.put (Wd.put (Wd.put (Wd.put (stemW 74 o 0 0) 31 1 (Wd.field (BitVec.ofInt 32 imm) 20 1)) 12 8 (Wd.field (BitVec.ofInt 32 imm) 12 8)) 20 1 (Wd.field (BitVec.ofInt 32 imm) 11 1)) 21 10 (Wd.field (BitVec.ofInt 32 imm) 1 10)) 7 5 (BitVec.ofInt 32 rd)) = W at *
  have z0 := field_nat W 0 7 0 7 rfl rfl (by omega) (by omega)
  rw [q5] at z0
  refine ⟨?_, ?_, ?_, ?_, ?_⟩
  · show ((((o : Nat) : Int) == _) && true) = true; rw [z0]; simp
  · have := fit_true g1
    show ((Wd.field W 7 5).toNat : Int) = _
    rw [field_nat W 7 5 7 5 rfl rfl (by omega) (by omega), q4, reg_nat _ this.1 this.2]; omega
  · exact (fit_false g2).symm
  · exact (fit_false g3).symm
  · obtain ⟨s0, s1, s2⟩ := span_of g4
    rw [number_J, q0, field_nat (BitVec.ofInt 32 imm) 20 1 20 1 rfl rfl (by omega) (by omega), Nat.mod_mod, q1, field_nat (BitVec.ofInt 32 imm) 12 8 12 8 rfl rfl (by omega) (by omega), Nat.mod_mod, q2, field_nat (BitVec.ofInt 32 imm) 11 1 11 1 rfl rfl (by omega) (by omega), Nat.mod_mod, q3, field_nat (BitVec.ofInt 32 imm) 1 10 1 10 rfl rfl (by omega) (by omega), Nat.mod_mod]
    exact back_J imm s0 s1 s2
theorem again_J (o : Nat) (ho : o < 128) (x : BitVec 32) (h : asksF 74 o 0 0 x = true) :
    fit (regIf true x 7) true = true ∧ fit (regIf false x 15) false = true ∧ fit (regIf false x 20) false = true ∧ inSpan (lo 74) (hi 74) (st 74) (number x 74) = true ∧ encF 74 o 0 0 (regIf true x 7) (regIf false x 15) (regIf false x 20) (number x 74) = x := by
  have z0 := field_nat x 0 7 0 7 rfl rfl (by omega) (by omega)
  have h' : ((((o : Nat) : Int) == ((Wd.field x 0 7).toNat : Int)) && true) = true := h
  rw [Bool.and_true, beq_nat, z0] at h'
  have w0 := h'
  have hd := digits_J (x.toNat / 2 ^ 31 % 2 ^ 1) (x.toNat / 2 ^ 12 % 2 ^ 8) (x.toNat / 2 ^ 20 % 2 ^ 1) (x.toNat / 2 ^ 21 % 2 ^ 10) (Nat.mod_lt _ (by decide)) (Nat.mod_lt _ (by decide)) (Nat.mod_lt _ (by decide)) (Nat.mod_lt _ (by decide))
  rw [← number_J x] at hd
  obtain ⟨s0, s1, s2, v0, v1, v2, v3⟩ := hd
  have y7 := field_nat x 7 5 7 5 rfl rfl (by omega) (by omega)
  have l7 : x.toNat / 2 ^ 7 % 2 ^ 5 < 32 := Nat.mod_lt _ (by decide)
  refine ⟨fit_mk _ (by rw [y7]; exact l7), fit_zero, fit_zero, span_mk s0 s1 s2, ?_⟩
  rw [encF_J]
  obtain ⟨q0, q1, q2, q3, q4, q5⟩ := fields_J (stemW 74 o 0 0) (Wd.field (BitVec.ofInt 32 (number x 74)) 20 1) (Wd.field (BitVec.ofInt 32 (number x 74)) 12 8) (Wd.field (BitVec.ofInt 32 (number x 74)) 11 1) (Wd.field (BitVec.ofInt 32 (number x 74)) 1 10) (BitVec.ofInt 32 (regIf true x 7)) o ho (by rw [stem_nat 74 o 0 0 (by decide) ho (by omega) (by omega)]; omega)
  generalize (Wd.put (Wd.put (Wd.put (Wd.put (Wd.put (stemW 74 o 0 0) 31 1 (Wd.field (BitVec.ofInt 32 (number x 74)) 20 1)) 12 8 (Wd.field (BitVec.ofInt 32 (number x 74)) 12 8)) 20 1 (Wd.field (BitVec.ofInt 32 (number x 74)) 11 1)) 21 10 (Wd.field (BitVec.ofInt 32 (number x 74)) 1 10)) 7 5 (BitVec.ofInt 32 (regIf true x 7))) = W at *
  exact eq_J W x (by rw [q5]; exact w0) (by rw [q4]; exact (reg_back _ (by rw [y7]; exact l7)).trans y7) (by rw [q1, field_nat (BitVec.ofInt 32 (number x 74)) 12 8 12 8 rfl rfl (by omega) (by omega), Nat.mod_mod]; exact v1) (by rw [q2, field_nat (BitVec.ofInt 32 (number x 74)) 11 1 11 1 rfl rfl (by omega) (by omega), Nat.mod_mod]; exact v2) (by rw [q3, field_nat (BitVec.ofInt 32 (number x 74)) 1 10 1 10 rfl rfl (by omega) (by omega), Nat.mod_mod]; exact v3) (by rw [q0, field_nat (BitVec.ofInt 32 (number x 74)) 20 1 20 1 rfl rfl (by omega) (by omega), Nat.mod_mod]; exact v0)
theorem encF_I (o a : Nat) (rd rs1 rs2 imm : Int) : encF 73 o a 0 rd rs1 rs2 imm = (Wd.put (Wd.put (Wd.put (stemW 73 o a 0) 20 12 (Wd.field (BitVec.ofInt 32 imm) 0 12)) 7 5 (BitVec.ofInt 32 rd)) 15 5 (BitVec.ofInt 32 rs1)) := by
  have e : encF 73 o a 0 rd rs1 rs2 imm = (Wd.put (Wd.put (Wd.put (Wd.put (Wd.put (Wd.put (stemW 73 o a 0) 20 12 (Wd.field (BitVec.ofInt 32 imm) 0 12)) 0 0 (Wd.field (BitVec.ofInt 32 imm) 0 0)) 0 0 (Wd.field (BitVec.ofInt 32 imm) 0 0)) 0 0 (Wd.field (BitVec.ofInt 32 imm) 0 0)) 7 5 (BitVec.ofInt 32 rd)) 15 5 (BitVec.ofInt 32 rs1)) := rfl
  rw [e, put_none, put_none, put_none]
theorem there_I (o a : Nat) (ho : o < 128) (ha : a < 8) (rd rs1 rs2 imm : Int) (g1 : fit rd true = true) (g2 : fit rs1 true = true) (g3 : fit rs2 false = true) (g4 : inSpan (lo 73) (hi 73) (st 73) imm = true) :
    asksF 73 o a 0 (encF 73 o a 0 rd rs1 rs2 imm) = true ∧ regIf true (encF 73 o a 0 rd rs1 rs2 imm) 7 = rd ∧ regIf true (encF 73 o a 0 rd rs1 rs2 imm) 15 = rs1 ∧ regIf false (encF 73 o a 0 rd rs1 rs2 imm) 20 = rs2 ∧ number (encF 73 o a 0 rd rs1 rs2 imm) 73 = imm := by
  rw [encF_I]
  obtain ⟨q0, q1, q2, q3, q4⟩ := fields_I (stemW 73 o a 0) (Wd.field (BitVec.ofInt 32 imm) 0 12) (BitVec.ofInt 32 rd) (BitVec.ofInt 32 rs1) o a ho (by rw [stem_nat 73 o a 0 (by decide) ho (by omega) (by omega)]; omega) ha
  generalize (Wd.put (Wd.put (Wd.put (stemW 73 o a 0) 20 12 (Wd.field (BitVec.ofInt 32 imm) 0 12)) 7 5 (BitVec.ofInt 32 rd)) 15 5 (BitVec.ofInt 32 rs1)) = W at *
  have z0 := field_nat W 0 7 0 7 rfl rfl (by omega) (by omega)
  have z3 := field_nat W 12 3 12 3 rfl rfl (by omega) (by omega)
  rw [q3] at z0
  rw [q4] at z3
  refine ⟨?_, ?_, ?_, ?_, ?_⟩
  · show ((((o : Nat) : Int) == _) && (_ == ((a : Nat) : Int))) = true; rw [z0, z3]; simp
  · have := fit_true g1
    show ((Wd.field W 7 5).toNat : Int) = _
    rw [field_nat W 7 5 7 5 rfl rfl (by omega) (by omega), q1, reg_nat _ this.1 this.2]; omega
  · have := fit_true g2
    show ((Wd.field W 15 5).toNat : Int) = _
    rw [field_nat W 15 5 15 5 rfl rfl (by omega) (by omega), q2, reg_nat _ this.1 this.2]; omega
  · exact (fit_false g3).symm
  · obtain ⟨s0, s1, s2⟩ := span_of g4
    rw [number_I, q0, field_nat (BitVec.ofInt 32 imm) 0 12 0 12 rfl rfl (by omega) (by omega), Nat.mod_mod]
    exact back_I imm s0 s1 s2
theorem again_I (o a : Nat) (ho : o < 128) (ha : a < 8) (x : BitVec 32) (h : asksF 73 o a 0 x = true) :
    fit (regIf true x 7) true = true ∧ fit (regIf true x 15) true = true ∧ fit (regIf false x 20) false = true ∧ inSpan (lo 73) (hi 73) (st 73) (number x 73) = true ∧ encF 73 o a 0 (regIf true x 7) (regIf true x 15) (regIf false x 20) (number x 73) = x := by
  have z0 := field_nat x 0 7 0 7 rfl rfl (by omega) (by omega)
  have z3 := field_nat x 12 3 12 3 rfl rfl (by omega) (by omega)
  have h' : ((((o : Nat) : Int) == ((Wd.field x 0 7).toNat : Int)) && (((Wd.field x 12 3).toNat : Int) == ((a : Nat) : Int))) = true := h
  rw [Bool.and_eq_true, beq_nat, beq_nat, z0, z3] at h'
  obtain ⟨w0, w3⟩ := h'
  have hd := digits_I (x.toNat / 2 ^ 20 % 2 ^ 12) (Nat.mod_lt _ (by decide))
  rw [← number_I x] at hd
  obtain ⟨s0, s1, s2, v0⟩ := hd
  have y7 := field_nat x 7 5 7 5 rfl rfl (by omega) (by omega)
  have l7 : x.toNat / 2 ^ 7 % 2 ^ 5 < 32 := Nat.mod_lt _ (by decide)
  have y15 := field_nat x 15 5 15 5 rfl rfl (by omega) (by omega)
  have l15 : x.toNat / 2 ^ 15 % 2 ^ 5 < 32 := Nat.mod_lt _ (by decide)
  refine ⟨fit_mk _ (by rw [y7]; exact l7), fit_mk _ (by rw [y15]; exact l15), fit_zero, span_mk s0 s1 s2, ?_⟩
  rw [encF_I]
  obtain ⟨q0, q1, q2, q3, q4⟩ := fields_I (stemW 73 o a 0) (Wd.field (BitVec.ofInt 32 (number x 73)) 0 12) (BitVec.ofInt 32 (regIf true x 7)) (BitVec.ofInt 32 (regIf true x 15)) o a ho (by rw [stem_nat 73 o a 0 (by decide) ho (by omega) (by omega)]; omega) ha
  generalize (Wd.put (Wd.put (Wd.put (stemW 73 o a 0) 20 12 (Wd.field (BitVec.ofInt 32 (number x 73)) 0 12)) 7 5 (BitVec.ofInt 32 (regIf true x 7))) 15 5 (BitVec.ofInt 32 (regIf true x 15))) = W at *
  exact eq_I W x (by rw [q3]; exact w0) (by rw [q1]; exact (reg_back _ (by rw [y7]; exact l7)).trans y7) (by rw [q4]; exact w3.symm) (by rw [q2]; exact (reg_back _ (by rw [y15]; exact l15)).trans y15) (by rw [q0, field_nat (BitVec.ofInt 32 (number x 73)) 0 12 0 12 rfl rfl (by omega) (by omega), Nat.mod_mod]; exact v0)
theorem encF_H (o a b : Nat) (rd rs1 rs2 imm : Int) : encF 72 o a b rd rs1 rs2 imm = (Wd.put (Wd.put (Wd.put (stemW 72 o a b) 20 5 (Wd.field (BitVec.ofInt 32 imm) 0 5)) 7 5 (BitVec.ofInt 32 rd)) 15 5 (BitVec.ofInt 32 rs1)) := by
  have e : encF 72 o a b rd rs1 rs2 imm = (Wd.put (Wd.put (Wd.put (Wd.put (Wd.put (Wd.put (stemW 72 o a b) 20 5 (Wd.field (BitVec.ofInt 32 imm) 0 5)) 0 0 (Wd.field (BitVec.ofInt 32 imm) 0 0)) 0 0 (Wd.field (BitVec.ofInt 32 imm) 0 0)) 0 0 (Wd.field (BitVec.ofInt 32 imm) 0 0)) 7 5 (BitVec.ofInt 32 rd)) 15 5 (BitVec.ofInt 32 rs1)) := rfl
  rw [e, put_none, put_none, put_none]
theorem there_H (o a b : Nat) (ho : o < 128) (ha : a < 8) (hb : b < 128) (rd rs1 rs2 imm : Int) (g1 : fit rd true = true) (g2 : fit rs1 true = true) (g3 : fit rs2 false = true) (g4 : inSpan (lo 72) (hi 72) (st 72) imm = true) :
    asksF 72 o a b (encF 72 o a b rd rs1 rs2 imm) = true ∧ regIf true (encF 72 o a b rd rs1 rs2 imm) 7 = rd ∧ regIf true (encF 72 o a b rd rs1 rs2 imm) 15 = rs1 ∧ regIf false (encF 72 o a b rd rs1 rs2 imm) 20 = rs2 ∧ number (encF 72 o a b rd rs1 rs2 imm) 72 = imm := by
  rw [encF_H]
  obtain ⟨q0, q1, q2, q3, q4, q5⟩ := fields_H (stemW 72 o a b) (Wd.field (BitVec.ofInt 32 imm) 0 5) (BitVec.ofInt 32 rd) (BitVec.ofInt 32 rs1) o a b ho (by rw [stem_nat 72 o a b (by decide) ho (by omega) (by omega)]) ha hb
  generalize (Wd.put (Wd.put (Wd.put (stemW 72 o a b) 20 5 (Wd.field (BitVec.ofInt 32 imm) 0 5)) 7 5 (BitVec.ofInt 32 rd)) 15 5 (BitVec.ofInt 32 rs1)) = W at *
  have z0 := field_nat W 0 7 0 7 rfl rfl (by omega) (by omega)
  have z3 := field_nat W 12 3 12 3 rfl rfl (by omega) (by omega)
  have z7 := field_nat W 25 7 25 7 rfl rfl (by omega) (by omega)
  rw [q3] at z0
  rw [q4] at z3
  rw [q5] at z7
  refine ⟨?_, ?_, ?_, ?_, ?_⟩
  · show ((((o : Nat) : Int) == _) && ((_ == ((a : Nat) : Int)) && (_ == ((b : Nat) : Int)))) = true; rw [z0, z3, z7]; simp
  · have := fit_true g1
    show ((Wd.field W 7 5).toNat : Int) = _
    rw [field_nat W 7 5 7 5 rfl rfl (by omega) (by omega), q1, reg_nat _ this.1 this.2]; omega
  · have := fit_true g2
    show ((Wd.field W 15 5).toNat : Int) = _
    rw [field_nat W 15 5 15 5 rfl rfl (by omega) (by omega), q2, reg_nat _ this.1 this.2]; omega
  · exact (fit_false g3).symm
  · obtain ⟨s0, s1, s2⟩ := span_of g4
    rw [number_H, q0, field_nat (BitVec.ofInt 32 imm) 0 5 0 5 rfl rfl (by omega) (by omega), Nat.mod_mod]
    exact back_H imm s0 s1 s2
theorem again_H (o a b : Nat) (ho : o < 128) (ha : a < 8) (hb : b < 128) (x : BitVec 32) (h : asksF 72 o a b x = true) :
    fit (regIf true x 7) true = true ∧ fit (regIf true x 15) true = true ∧ fit (regIf false x 20) false = true ∧ inSpan (lo 72) (hi 72) (st 72) (number x 72) = true ∧ encF 72 o a b (regIf true x 7) (regIf true x 15) (regIf false x 20) (number x 72) = x := by
  have z0 := field_nat x 0 7 0 7 rfl rfl (by omega) (by omega)
  have z3 := field_nat x 12 3 12 3 rfl rfl (by omega) (by omega)
  have z7 := field_nat x 25 7 25 7 rfl rfl (by omega) (by omega)
  have h' : ((((o : Nat) : Int) == ((Wd.field x 0 7).toNat : Int)) && ((((Wd.field x 12 3).toNat : Int) == ((a : Nat) : Int)) && (((Wd.field x 25 7).toNat : Int) == ((b : Nat) : Int)))) = true := h
  rw [Bool.and_eq_true, Bool.and_eq_true, beq_nat, beq_nat, beq_nat, z0, z3, z7] at h'
  obtain ⟨w0, w3, w7⟩ := h'
  have hd := digits_H (x.toNat / 2 ^ 20 % 2 ^ 5) (Nat.mod_lt _ (by decide))
  rw [← number_H x] at hd
  obtain ⟨s0, s1, s2, v0⟩ := hd
  have y7 := field_nat x 7 5 7 5 rfl rfl (by omega) (by omega)
  have l7 : x.toNat / 2 ^ 7 % 2 ^ 5 < 32 := Nat.mod_lt _ (by decide)
  have y15 := field_nat x 15 5 15 5 rfl rfl (by omega) (by omega)
  have l15 : x.toNat / 2 ^ 15 % 2 ^ 5 < 32 := Nat.mod_lt _ (by decide)
  refine ⟨fit_mk _ (by rw [y7]; exact l7), fit_mk _ (by rw [y15]; exact l15), fit_zero, span_mk s0 s1 s2, ?_⟩
  rw [encF_H]
  obtain ⟨q0, q1, q2, q3, q4, q5⟩ := fields_H (stemW 72 o a b) (Wd.field (BitVec.ofInt 32 (number x 72)) 0 5) (BitVec.ofInt 32 (regIf true x 7)) (BitVec.ofInt 32 (regIf true x 15)) o a b ho (by rw [stem_nat 72 o a b (by decide) ho (by omega) (by omega)]) ha hb
  generalize (Wd.put (Wd.put (Wd.put (stemW 72 o a b) 20 5 (Wd.field (BitVec.ofInt 32 (number x 72)) 0 5)) 7 5 (BitVec.ofInt 32 (regIf true x 7))) 15 5 (BitVec.ofInt 32 (regIf true x 15))) = W at *
  exact eq_H W x (by rw [q3]; exact w0) (by rw [q1]; exact (reg_back _ (by rw [y7]; exact l7)).trans y7) (by rw [q4]; exact w3.symm) (by rw [q2]; exact (reg_back _ (by rw [y15]; exact l15)).trans y15) (by rw [q0, field_nat (BitVec.ofInt 32 (number x 72)) 0 5 0 5 rfl rfl (by omega) (by omega), Nat.mod_mod]; exact v0) (by rw [q5]; exact w7.symm)
theorem encF_B (o a : Nat) (rd rs1 rs2 imm : Int) : encF 66 o a 0 rd rs1 rs2 imm = (Wd.put (Wd.put (Wd.put (Wd.put (Wd.put (Wd.put (stemW 66 o a 0) 31 1 (Wd.field (BitVec.ofInt 32 imm) 12 1)) 7 1 (Wd.field (BitVec.ofInt 32 imm) 11 1)) 25 6 (Wd.field (BitVec.ofInt 32 imm) 5 6)) 8 4 (Wd.field (BitVec.ofInt 32 imm) 1 4)) 15 5 (BitVec.ofInt 32 rs1)) 20 5 (BitVec.ofInt 32 rs2)) := by
  have e : encF 66 o a 0 rd rs1 rs2 imm = (Wd.put (Wd.put (Wd.put (Wd.put (Wd.put (Wd.put (stemW 66 o a 0) 31 1 (Wd.field (BitVec.ofInt 32 imm) 12 1)) 7 1 (Wd.field (BitVec.ofInt 32 imm) 11 1)) 25 6 (Wd.field (BitVec.ofInt 32 imm) 5 6)) 8 4 (Wd.field (BitVec.ofInt 32 imm) 1 4)) 15 5 (BitVec.ofInt 32 rs1)) 20 5 (BitVec.ofInt 32 rs2)) := rfl
  rw [e]
theorem there_B (o a : Nat) (ho : o < 128) (ha : a < 8) (rd rs1 rs2 imm : Int) (g1 : fit rd false = true) (g2 : fit rs1 true = true) (g3 : fit rs2 true = true) (g4 : inSpan (lo 66) (hi 66) (st 66) imm = true) :
    asksF 66 o a 0 (encF 66 o a 0 rd rs1 rs2 imm) = true ∧ regIf false (encF 66 o a 0 rd rs1 rs2 imm) 7 = rd ∧ regIf true (encF 66 o a 0 rd rs1 rs2 imm) 15 = rs1 ∧ regIf true (encF 66 o a 0 rd rs1 rs2 imm) 20 = rs2 ∧ number (encF 66 o a 0 rd rs1 rs2 imm) 66 = imm := by
  rw [encF_B]
  obtain ⟨q0, q1, q2, q3, q4, q5, q6, q7⟩ := fields_B (stemW 66 o a 0) (Wd.field (BitVec.ofInt 32 imm) 12 1) (Wd.field (BitVec.ofInt 32 imm) 11 1) (Wd.field (BitVec.ofInt 32 imm) 5 6) (Wd.field (BitVec.ofInt 32 imm) 1 4) (BitVec.ofInt 32 rs1) (BitVec.ofInt 32 rs2) o a ho (by rw [stem_nat 66 o a 0 (by decide) ho (by omega) (by omega)]; omega) ha
  generalize (Wd.put (Wd.put (Wd.put (Wd.put (Wd.put (Wd.put (stemW 66 o a 0) 31 1 (Wd.field (BitVec.ofInt 32 imm) 12 1)) 7 1 (Wd.field (BitVec.ofInt 32 imm) 11 1)) 25 6 (Wd.field (BitVec.ofInt 32 imm) 5 6)) 8 4 (Wd.field (BitVec.ofInt 32 imm) 1 4)) 15 5 (BitVec.ofInt 32 rs1)) 20 5 (BitVec.ofInt 32 rs2)) = W at *
  have z0 := field_nat W 0 7 0 7 rfl rfl (by omega) (by omega)
  have z3 := field_nat W 12 3 12 3 rfl rfl (by omega) (by omega)
  rw [q6] at z0
  rw [q7] at z3
  refine ⟨?_, ?_, ?_, ?_, ?_⟩
  · show ((((o : Nat) : Int) == _) && (_ == ((a : Nat) : Int))) = true; rw [z0, z3]; simp
  · exact (fit_false g1).symm
  · have := fit_true g2
    show ((Wd.field W 15 5).toNat : Int) = _
    rw [field_nat W 15 5 15 5 rfl rfl (by omega) (by omega), q4, reg_nat _ this.1 this.2]; omega
  · have := fit_true g3
    show ((Wd.field W 20 5).toNat : Int) = _
    rw [field_nat W 20 5 20 5 rfl rfl (by omega) (by omega), q5, reg_nat _ this.1 this.2]; omega
  · obtain ⟨s0, s1, s2⟩ := span_of g4
    rw [number_B, q0, field_nat (BitVec.ofInt 32 imm) 12 1 12 1 rfl rfl (by omega) (by omega), Nat.mod_mod, q1, field_nat (BitVec.ofInt 32 imm) 11 1 11 1 rfl rfl (by omega) (by omega), Nat.mod_mod, q2, field_nat (BitVec.ofInt 32 imm) 5 6 5 6 rfl rfl (by omega) (by omega), Nat.mod_mod, q3, field_nat (BitVec.ofInt 32 imm) 1 4 1 4 rfl rfl (by omega) (by omega), Nat.mod_mod]
    exact back_B imm s0 s1 s2
theorem again_B (o a : Nat) (ho : o < 128) (ha : a < 8) (x : BitVec 32) (h : asksF 66 o a 0 x = true) :
    fit (regIf false x 7) false = true ∧ fit (regIf true x 15) true = true ∧ fit (regIf true x 20) true = true ∧ inSpan (lo 66) (hi 66) (st 66) (number x 66) = true ∧ encF 66 o a 0 (regIf false x 7) (regIf true x 15) (regIf true x 20) (number x 66) = x := by
  have z0 := field_nat x 0 7 0 7 rfl rfl (by omega) (by omega)
  have z3 := field_nat x 12 3 12 3 rfl rfl (by omega) (by omega)
  have h' : ((((o : Nat) : Int) == ((Wd.field x 0 7).toNat : Int)) && (((Wd.field x 12 3).toNat : Int) == ((a : Nat) : Int))) = true := h
  rw [Bool.and_eq_true, beq_nat, beq_nat, z0, z3] at h'
  obtain ⟨w0, w3⟩ := h'
  have hd := digits_B (x.toNat / 2 ^ 31 % 2 ^ 1) (x.toNat / 2 ^ 7 % 2 ^ 1) (x.toNat / 2 ^ 25 % 2 ^ 6) (x.toNat / 2 ^ 8 % 2 ^ 4) (Nat.mod_lt _ (by decide)) (Nat.mod_lt _ (by decide)) (Nat.mod_lt _ (by decide)) (Nat.mod_lt _ (by decide))
  rw [← number_B x] at hd
  obtain ⟨s0, s1, s2, v0, v1, v2, v3⟩ := hd
  have y15 := field_nat x 15 5 15 5 rfl rfl (by omega) (by omega)
  have l15 : x.toNat / 2 ^ 15 % 2 ^ 5 < 32 := Nat.mod_lt _ (by decide)
  have y20 := field_nat x 20 5 20 5 rfl rfl (by omega) (by omega)
  have l20 : x.toNat / 2 ^ 20 % 2 ^ 5 < 32 := Nat.mod_lt _ (by decide)
  refine ⟨fit_zero, fit_mk _ (by rw [y15]; exact l15), fit_mk _ (by rw [y20]; exact l20), span_mk s0 s1 s2, ?_⟩
  rw [encF_B]
  obtain ⟨q0, q1, q2, q3, q4, q5, q6, q7⟩ := fields_B (stemW 66 o a 0) (Wd.field (BitVec.ofInt 32 (number x 66)) 12 1) (Wd.field (BitVec.ofInt 32 (number x 66)) 11 1) (Wd.field (BitVec.ofInt 32 (number x 66)) 5 6) (Wd.field (BitVec.ofInt 32 (number x 66)) 1 4) (BitVec.ofInt 32 (regIf true x 15)) (BitVec.ofInt 32 (regIf true x 20)) o a ho (by rw [stem_nat 66 o a 0 (by decide) ho (by omega) (by omega)]; omega) ha
  generalize (Wd.put (Wd.put (Wd.put (Wd.put (Wd.put (Wd.put (stemW 66 o a 0) 31 1 (Wd.field (BitVec.ofInt 32 (number x 66)) 12 1)) 7 1 (Wd.field (BitVec.ofInt 32 (number x 66)) 11 1)) 25 6 (Wd.field (BitVec.ofInt 32 (number x 66)) 5 6)) 8 4 (Wd.field (BitVec.ofInt 32 (number x 66)) 1 4)) 15 5 (BitVec.ofInt 32 (regIf true x 15))) 20 5 (BitVec.ofInt 32 (regIf true x 20))) = W at *
  exact eq_B W x (by rw [q6]; exact w0) (by rw [q1, field_nat (BitVec.ofInt 32 (number x 66)) 11 1 11 1 rfl rfl (by omega) (by omega), Nat.mod_mod]; exact v1) (by rw [q3, field_nat (BitVec.ofInt 32 (number x 66)) 1 4 1 4 rfl rfl (by omega) (by omega), Nat.mod_mod]; exact v3) (by rw [q7]; exact w3.symm) (by rw [q4]; exact (reg_back _ (by rw [y15]; exact l15)).trans y15) (by rw [q5]; exact (reg_back _ (by rw [y20]; exact l20)).trans y20) (by rw [q2, field_nat (BitVec.ofInt 32 (number x 66)) 5 6 5 6 rfl rfl (by omega) (by omega), Nat.mod_mod]; exact v2) (by rw [q0, field_nat (BitVec.ofInt 32 (number x 66)) 12 1 12 1 rfl rfl (by omega) (by omega), Nat.mod_mod]; exact v0)
theorem encF_S (o a : Nat) (rd rs1 rs2 imm : Int) : encF 83 o a 0 rd rs1 rs2 imm = (Wd.put (Wd.put (Wd.put (Wd.put (stemW 83 o a 0) 7 5 (Wd.field (BitVec.ofInt 32 imm) 0 5)) 25 7 (Wd.field (BitVec.ofInt 32 imm) 5 7)) 15 5 (BitVec.ofInt 32 rs1)) 20 5 (BitVec.ofInt 32 rs2)) := by
  have e : encF 83 o a 0 rd rs1 rs2 imm = (Wd.put (Wd.put (Wd.put (Wd.put (Wd.put (Wd.put (stemW 83 o a 0) 7 5 (Wd.field (BitVec.ofInt 32 imm) 0 5)) 25 7 (Wd.field (BitVec.ofInt 32 imm) 5 7)) 0 0 (Wd.field (BitVec.ofInt 32 imm) 0 0)) 0 0 (Wd.field (BitVec.ofInt 32 imm) 0 0)) 15 5 (BitVec.ofInt 32 rs1)) 20 5 (BitVec.ofInt 32 rs2)) := rfl
  rw [e, put_none, put_none]
theorem there_S (o a : Nat) (ho : o < 128) (ha : a < 8) (rd rs1 rs2 imm : Int) (g1 : fit rd false = true) (g2 : fit rs1 true = true) (g3 : fit rs2 true = true) (g4 : inSpan (lo 83) (hi 83) (st 83) imm = true) :
    asksF 83 o a 0 (encF 83 o a 0 rd rs1 rs2 imm) = true ∧ regIf false (encF 83 o a 0 rd rs1 rs2 imm) 7 = rd ∧ regIf true (encF 83 o a 0 rd rs1 rs2 imm) 15 = rs1 ∧ regIf true (encF 83 o a 0 rd rs1 rs2 imm) 20 = rs2 ∧ number (encF 83 o a 0 rd rs1 rs2 imm) 83 = imm := by
  rw [encF_S]
  obtain ⟨q0, q1, q2, q3, q4, q5⟩ := fields_S (stemW 83 o a 0) (Wd.field (BitVec.ofInt 32 imm) 0 5) (Wd.field (BitVec.ofInt 32 imm) 5 7) (BitVec.ofInt 32 rs1) (BitVec.ofInt 32 rs2) o a ho (by rw [stem_nat 83 o a 0 (by decide) ho (by omega) (by omega)]; omega) ha
  generalize (Wd.put (Wd.put (Wd.put (Wd.put (stemW 83 o a 0) 7 5 (Wd.field (BitVec.ofInt 32 imm) 0 5)) 25 7 (Wd.field (BitVec.ofInt 32 imm) 5 7)) 15 5 (BitVec.ofInt 32 rs1)) 20 5 (BitVec.ofInt 32 rs2)) = W at *
  have z0 := field_nat W 0 7 0 7 rfl rfl (by omega) (by omega)
  have z3 := field_nat W 12 3 12 3 rfl rfl (by omega) (by omega)
  rw [q4] at z0
  rw [q5] at z3
  refine ⟨?_, ?_, ?_, ?_, ?_⟩
  · show ((((o : Nat) : Int) == _) && (_ == ((a : Nat) : Int))) = true; rw [z0, z3]; simp
  · exact (fit_false g1).symm
  · have := fit_true g2
    show ((Wd.field W 15 5).toNat : Int) = _
    rw [field_nat W 15 5 15 5 rfl rfl (by omega) (by omega), q2, reg_nat _ this.1 this.2]; omega
  · have := fit_true g3
    show ((Wd.field W 20 5).toNat : Int) = _
    rw [field_nat W 20 5 20 5 rfl rfl (by omega) (by omega), q3, reg_nat _ this.1 this.2]; omega
  · obtain ⟨s0, s1, s2⟩ := span_of g4
    rw [number_S, q0, field_nat (BitVec.ofInt 32 imm) 0 5 0 5 rfl rfl (by omega) (by omega), Nat.mod_mod, q1, field_nat (BitVec.ofInt 32 imm) 5 7 5 7 rfl rfl (by omega) (by omega), Nat.mod_mod]
    exact back_S imm s0 s1 s2
theorem again_S (o a : Nat) (ho : o < 128) (ha : a < 8) (x : BitVec 32) (h : asksF 83 o a 0 x = true) :
    fit (regIf false x 7) false = true ∧ fit (regIf true x 15) true = true ∧ fit (regIf true x 20) true = true ∧ inSpan (lo 83) (hi 83) (st 83) (number x 83) = true ∧ encF 83 o a 0 (regIf false x 7) (regIf true x 15) (regIf true x 20) (number x 83) = x := by
  have z0 := field_nat x 0 7 0 7 rfl rfl (by omega) (by omega)
  have z3 := field_nat x 12 3 12 3 rfl rfl (by omega) (by omega)
  have h' : ((((o : Nat) : Int) == ((Wd.field x 0 7).toNat : Int)) && (((Wd.field x 12 3).toNat : Int) == ((a : Nat) : Int))) = true := h
  rw [Bool.and_eq_true, beq_nat, beq_nat, z0, z3] at h'
  obtain ⟨w0, w3⟩ := h'
  have hd := digits_S (x.toNat / 2 ^ 7 % 2 ^ 5) (x.toNat / 2 ^ 25 % 2 ^ 7) (Nat.mod_lt _ (by decide)) (Nat.mod_lt _ (by decide))
  rw [← number_S x] at hd
  obtain ⟨s0, s1, s2, v0, v1⟩ := hd
  have y15 := field_nat x 15 5 15 5 rfl rfl (by omega) (by omega)
  have l15 : x.toNat / 2 ^ 15 % 2 ^ 5 < 32 := Nat.mod_lt _ (by decide)
  have y20 := field_nat x 20 5 20 5 rfl rfl (by omega) (by omega)
  have l20 : x.toNat / 2 ^ 20 % 2 ^ 5 < 32 := Nat.mod_lt _ (by decide)
  refine ⟨fit_zero, fit_mk _ (by rw [y15]; exact l15), fit_mk _ (by rw [y20]; exact l20), span_mk s0 s1 s2, ?_⟩
  rw [encF_S]
  obtain ⟨q0, q1, q2, q3, q4, q5⟩ := fields_S (stemW 83 o a 0) (Wd.field (BitVec.ofInt 32 (number x 83)) 0 5) (Wd.field (BitVec.ofInt 32 (number x 83)) 5 7) (BitVec.ofInt 32 (regIf true x 15)) (BitVec.ofInt 32 (regIf true x 20)) o a ho (by rw [stem_nat 83 o a 0 (by decide) ho (by omega) (by omega)]; omega) ha
  generalize (Wd.put (Wd.put (Wd.put (Wd.put (stemW 83 o a 0) 7 5 (Wd.field (BitVec.ofInt 32 (number x 83)) 0 5)) 25 7 (Wd.field (BitVec.ofInt 32 (number x 83)) 5 7)) 15 5 (BitVec.ofInt 32 (regIf true x 15))) 20 5 (BitVec.ofInt 32 (regIf true x 20))) = W at *
  exact eq_S W x (by rw [q4]; exact w0) (by rw [q0, field_nat (BitVec.ofInt 32 (number x 83)) 0 5 0 5 rfl rfl (by omega) (by omega), Nat.mod_mod]; exact v0) (by rw [q5]; exact w3.symm) (by rw [q2]; exact (reg_back _ (by rw [y15]; exact l15)).trans y15) (by rw [q3]; exact (reg_back _ (by rw [y20]; exact l20)).trans y20) (by rw [q1, field_nat (BitVec.ofInt 32 (number x 83)) 5 7 5 7 rfl rfl (by omega) (by omega), Nat.mod_mod]; exact v1)
theorem encF_R (o a b : Nat) (rd rs1 rs2 imm : Int) : encF 82 o a b rd rs1 rs2 imm = (Wd.put (Wd.put (Wd.put (stemW 82 o a b) 7 5 (BitVec.ofInt 32 rd)) 15 5 (BitVec.ofInt 32 rs1)) 20 5 (BitVec.ofInt 32 rs2)) := by
  have e : encF 82 o a b rd rs1 rs2 imm = (Wd.put (Wd.put (Wd.put (Wd.put (Wd.put (Wd.put (Wd.put (stemW 82 o a b) 0 0 (Wd.field (BitVec.ofInt 32 imm) 0 0)) 0 0 (Wd.field (BitVec.ofInt 32 imm) 0 0)) 0 0 (Wd.field (BitVec.ofInt 32 imm) 0 0)) 0 0 (Wd.field (BitVec.ofInt 32 imm) 0 0)) 7 5 (BitVec.ofInt 32 rd)) 15 5 (BitVec.ofInt 32 rs1)) 20 5 (BitVec.ofInt 32 rs2)) := rfl
  rw [e, put_none, put_none, put_none, put_none]
theorem there_R (o a b : Nat) (ho : o < 128) (ha : a < 8) (hb : b < 128) (rd rs1 rs2 imm : Int) (g1 : fit rd true = true) (g2 : fit rs1 true = true) (g3 : fit rs2 true = true) (g4 : inSpan (lo 82) (hi 82) (st 82) imm = true) :
    asksF 82 o a b (encF 82 o a b rd rs1 rs2 imm) = true ∧ regIf true (encF 82 o a b rd rs1 rs2 imm) 7 = rd ∧ regIf true (encF 82 o a b rd rs1 rs2 imm) 15 = rs1 ∧ regIf true (encF 82 o a b rd rs1 rs2 imm) 20 = rs2 ∧ number (encF 82 o a b rd rs1 rs2 imm) 82 = imm := by
  rw [encF_R]
  obtain ⟨q0, q1, q2, q3, q4, q5⟩ := fields_R (stemW 82 o a b) (BitVec.ofInt 32 rd) (BitVec.ofInt 32 rs1) (BitVec.ofInt 32 rs2) o a b ho (by rw [stem_nat 82 o a b (by decide) ho (by omega) (by omega)]) ha hb
  generalize (Wd.put (Wd.put (Wd.put (stemW 82 o a b) 7 5 (BitVec.ofInt 32 rd)) 15 5 (BitVec.ofInt 32 rs1)) 20 5 (BitVec.ofInt 32 rs2)) = W at *
  have z0 := field_nat W 0 7 0 7 rfl rfl (by omega) (by omega)
  have z3 := field_nat W 12 3 12 3 rfl rfl (by omega) (by omega)
  have z7 := field_nat W 25 7 25 7 rfl rfl (by omega) (by omega)
  rw [q3] at z0
  rw [q4] at z3
  rw [q5] at z7
  refine ⟨?_, ?_, ?_, ?_, ?_⟩
  · show ((((o : Nat) : Int) == _) && ((_ == ((a : Nat) : Int)) && (_ == ((b : Nat) : Int)))) = true; rw [z0, z3, z7]; simp
  · have := fit_true g1
    show ((Wd.field W 7 5).toNat : Int) = _
    rw [field_nat W 7 5 7 5 rfl rfl (by omega) (by omega), q0, reg_nat _ this.1 this.2]; omega
  · have := fit_true g2
    show ((Wd.field W 15 5).toNat : Int) = _
    rw [field_nat W 15 5 15 5 rfl rfl (by omega) (by omega), q1, reg_nat _ this.1 this.2]; omega
  · have := fit_true g3
    show ((Wd.field W 20 5).toNat : Int) = _
    rw [field_nat W 20 5 20 5 rfl rfl (by omega) (by omega), q2, reg_nat _ this.1 this.2]; omega
  · obtain ⟨s0, s1, s2⟩ := span_of g4
    rw [num_none W 82 (by decide)]
    have : lo 82 = 0 := rfl
    have : hi 82 = 0 := rfl
    omega
theorem again_R (o a b : Nat) (ho : o < 128) (ha : a < 8) (hb : b < 128) (x : BitVec 32) (h : asksF 82 o a b x = true) :
    fit (regIf true x 7) true = true ∧ fit (regIf true x 15) true = true ∧ fit (regIf true x 20) true = true ∧ inSpan (lo 82) (hi 82) (st 82) (number x 82) = true ∧ encF 82 o a b (regIf true x 7) (regIf true x 15) (regIf true x 20) (number x 82) = x := by
  have z0 := field_nat x 0 7 0 7 rfl rfl (by omega) (by omega)
  have z3 := field_nat x 12 3 12 3 rfl rfl (by omega) (by omega)
  have z7 := field_nat x 25 7 25 7 rfl rfl (by omega) (by omega)
  have h' : ((((o : Nat) : Int) == ((Wd.field x 0 7).toNat : Int)) && ((((Wd.field x 12 3).toNat : Int) == ((a : Nat) : Int)) && (((Wd.field x 25 7).toNat : Int) == ((b : Nat) : Int)))) = true := h
  rw [Bool.and_eq_true, Bool.and_eq_true, beq_nat, beq_nat, beq_nat, z0, z3, z7] at h'
  obtain ⟨w0, w3, w7⟩ := h'
  have hn := num_none x 82 (by decide)
  have y7 := field_nat x 7 5 7 5 rfl rfl (by omega) (by omega)
  have l7 : x.toNat / 2 ^ 7 % 2 ^ 5 < 32 := Nat.mod_lt _ (by decide)
  have y15 := field_nat x 15 5 15 5 rfl rfl (by omega) (by omega)
  have l15 : x.toNat / 2 ^ 15 % 2 ^ 5 < 32 := Nat.mod_lt _ (by decide)
  have y20 := field_nat x 20 5 20 5 rfl rfl (by omega) (by omega)
  have l20 : x.toNat / 2 ^ 20 % 2 ^ 5 < 32 := Nat.mod_lt _ (by decide)
  refine ⟨fit_mk _ (by rw [y7]; exact l7), fit_mk _ (by rw [y15]; exact l15), fit_mk _ (by rw [y20]; exact l20), by rw [hn]; rfl, ?_⟩
  rw [encF_R]
  obtain ⟨q0, q1, q2, q3, q4, q5⟩ := fields_R (stemW 82 o a b) (BitVec.ofInt 32 (regIf true x 7)) (BitVec.ofInt 32 (regIf true x 15)) (BitVec.ofInt 32 (regIf true x 20)) o a b ho (by rw [stem_nat 82 o a b (by decide) ho (by omega) (by omega)]) ha hb
  generalize (Wd.put (Wd.put (Wd.put (stemW 82 o a b) 7 5 (BitVec.ofInt 32 (regIf true x 7))) 15 5 (BitVec.ofInt 32 (regIf true x 15))) 20 5 (BitVec.ofInt 32 (regIf true x 20))) = W at *
  exact eq_R W x (by rw [q3]; exact w0) (by rw [q0]; exact (reg_back _ (by rw [y7]; exact l7)).trans y7) (by rw [q4]; exact w3.symm) (by rw [q1]; exact (reg_back _ (by rw [y15]; exact l15)).trans y15) (by rw [q2]; exact (reg_back _ (by rw [y20]; exact l20)).trans y20) (by rw [q5]; exact w7.symm)
end Ip
end Go.Proofs.Ytilphdfobflbiaa
