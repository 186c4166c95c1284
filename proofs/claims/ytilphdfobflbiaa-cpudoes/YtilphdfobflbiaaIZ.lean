/-
  Words and instructions there and back, by the kinds; a word has one kind at most. No program in sight.
-/
import Derived.Test.YtilphdfobflbiaaIV
namespace Go.Proofs.Ytilphdfobflbiaa
open Go.RowKit
namespace Ip

def asked (x : BitVec 32) (k : Nat) : Bool := asksF (kf k) (ko k) (k3 k) (k7 k) x
theorem encF_E0 (o a b : Nat) (rd rs1 rs2 imm : Int) : encF 69 o a b rd rs1 rs2 imm = stemW 69 o a b := by
  have e : encF 69 o a b rd rs1 rs2 imm = (Wd.put (Wd.put (Wd.put (Wd.put (stemW 69 o a b) 0 0 (Wd.field (BitVec.ofInt 32 imm) 0 0)) 0 0 (Wd.field (BitVec.ofInt 32 imm) 0 0)) 0 0 (Wd.field (BitVec.ofInt 32 imm) 0 0)) 0 0 (Wd.field (BitVec.ofInt 32 imm) 0 0)) := rfl
  rw [e, put_none, put_none, put_none, put_none]
theorem encF_E (b : Nat) (rd rs1 rs2 imm : Int) : encF 69 115 0 b rd rs1 rs2 imm = stemW 69 115 0 b := encF_E0 115 0 b rd rs1 rs2 imm
theorem field_E (b : Nat) (hb : b ≤ 1) : (Wd.field (stemW 69 115 0 b) 0 7).toNat = 115 := by
  rw [field_nat _ 0 7 0 7 rfl rfl (by omega) (by omega), stem_nat_E 0 b (by omega) (by omega)]; omega
theorem there_E (b : Nat) (hb : b ≤ 1) (rd rs1 rs2 imm : Int) (g1 : fit rd false = true) (g2 : fit rs1 false = true) (g3 : fit rs2 false = true) (g4 : inSpan (lo 69) (hi 69) (st 69) imm = true) :
    asksF 69 115 0 b (encF 69 115 0 b rd rs1 rs2 imm) = true ∧ regIf false (encF 69 115 0 b rd rs1 rs2 imm) 7 = rd ∧ regIf false (encF 69 115 0 b rd rs1 rs2 imm) 15 = rs1 ∧ regIf false (encF 69 115 0 b rd rs1 rs2 imm) 20 = rs2 ∧ number (encF 69 115 0 b rd rs1 rs2 imm) 69 = imm := by
  rw [encF_E]
  refine ⟨?_, (fit_false g1).symm, (fit_false g2).symm, (fit_false g3).symm, ?_⟩
  · show ((((115 : Nat) : Int) == _) && (_ == _)) = true
    rw [field_E b hb]; simp
  · obtain ⟨s0, s1, s2⟩ := span_of g4
    rw [num_none _ 69 (by decide)]
    have : lo 69 = 0 := rfl
    have : hi 69 = 0 := rfl
    omega
theorem again_E (b : Nat) (x : BitVec 32) (h : asksF 69 115 0 b x = true) :
    fit (regIf false x 7) false = true ∧ fit (regIf false x 15) false = true ∧ fit (regIf false x 20) false = true ∧ inSpan (lo 69) (hi 69) (st 69) (number x 69) = true ∧ encF 69 115 0 b (regIf false x 7) (regIf false x 15) (regIf false x 20) (number x 69) = x := by
  have h' : ((((115 : Nat) : Int) == ((Wd.field x 0 7).toNat : Int)) && ((x.toNat : Int) == ((stemW 69 115 0 b).toNat : Int))) = true := h
  rw [Bool.and_eq_true, beq_nat, beq_nat] at h'
  refine ⟨fit_zero, fit_zero, fit_zero, by rw [num_none x 69 (by decide)]; rfl, ?_⟩
  rw [encF_E]; exact (BitVec.eq_of_toNat_eq h'.2).symm

theorem kind_facts (k : Nat) (h : k < 47) : is8 (kf k) ∧ ko k < 128 ∧ k3 k < 8 ∧ k7 k < 128 ∧ ((kf k = 85 ∨ kf k = 74) → k3 k = 0 ∧ k7 k = 0) ∧ ((kf k = 73 ∨ kf k = 66 ∨ kf k = 83) → k7 k = 0) ∧ (kf k = 69 → ko k = 115 ∧ k3 k = 0 ∧ k7 k ≤ 1) ∧ ko k % 4 = 3 := by
  revert k
  refine cases47 ?_ ?_ ?_ ?_ ?_ ?_ ?_ ?_ ?_ ?_ ?_ ?_ ?_ ?_ ?_ ?_ ?_ ?_ ?_ ?_ ?_ ?_ ?_ ?_ ?_ ?_ ?_ ?_ ?_ ?_ ?_ ?_ ?_ ?_ ?_ ?_ ?_ ?_ ?_ ?_ ?_ ?_ ?_ ?_ ?_ ?_ ?_
  all_goals (unfold is8; decide)

theorem frm_nat (k : Nat) : frm (k : Int) = kf k := by unfold frm; rw [if_pos (by omega), Int.toNat_natCast]
theorem enc_nat (k : Nat) (rd rs1 rs2 imm : Int) : enc (k : Int) rd rs1 rs2 imm = encF (kf k) (ko k) (k3 k) (k7 k) rd rs1 rs2 imm := by
  unfold enc encF stem; rw [frm_nat, Int.toNat_natCast]
theorem right_nat (k : Nat) (h : k < 47) (rd rs1 rs2 imm : Int) : right (k : Int) rd rs1 rs2 imm = (fit rd (hRd (kf k)) && fit rs1 (hRs1 (kf k)) && fit rs2 (hRs2 (kf k)) && inSpan (lo (kf k)) (hi (kf k)) (st (kf k)) imm) := by
  unfold right
  rw [frm_nat]
  have := (kind_facts k h).1
  have e : decide (kf k ≠ 0) = true := by unfold is8 at this; rw [decide_eq_true_eq]; omega
  rw [e, Bool.true_and]

theorem thereF (f o a b : Nat) (h8 : is8 f) (ho : o < 128) (ha : a < 8) (hb : b < 128) (hU : (f = 85 ∨ f = 74) → a = 0 ∧ b = 0) (hI : (f = 73 ∨ f = 66 ∨ f = 83) → b = 0) (hE : f = 69 → o = 115 ∧ a = 0 ∧ b ≤ 1)
    (rd rs1 rs2 imm : Int) (g1 : fit rd (hRd f) = true) (g2 : fit rs1 (hRs1 f) = true) (g3 : fit rs2 (hRs2 f) = true) (g4 : inSpan (lo f) (hi f) (st f) imm = true) :
    asksF f o a b (encF f o a b rd rs1 rs2 imm) = true ∧ regIf (hRd f) (encF f o a b rd rs1 rs2 imm) 7 = rd ∧ regIf (hRs1 f) (encF f o a b rd rs1 rs2 imm) 15 = rs1 ∧ regIf (hRs2 f) (encF f o a b rd rs1 rs2 imm) 20 = rs2 ∧ number (encF f o a b rd rs1 rs2 imm) f = imm := by
  rcases h8 with rfl | rfl | rfl | rfl | rfl | rfl | rfl | rfl
  · obtain ⟨rfl, rfl⟩ := hU (by decide); exact there_U o ho rd rs1 rs2 imm g1 g2 g3 g4
  · obtain ⟨rfl, rfl⟩ := hU (by decide); exact there_J o ho rd rs1 rs2 imm g1 g2 g3 g4
  · obtain rfl := hI (by decide); exact there_I o a ho ha rd rs1 rs2 imm g1 g2 g3 g4
  · exact there_H o a b ho ha hb rd rs1 rs2 imm g1 g2 g3 g4
  · obtain rfl := hI (by decide); exact there_B o a ho ha rd rs1 rs2 imm g1 g2 g3 g4
  · obtain rfl := hI (by decide); exact there_S o a ho ha rd rs1 rs2 imm g1 g2 g3 g4
  · exact there_R o a b ho ha hb rd rs1 rs2 imm g1 g2 g3 g4
  · obtain ⟨rfl, rfl, hb1⟩ := hE rfl; exact there_E b hb1 rd rs1 rs2 imm g1 g2 g3 g4
theorem againF (f o a b : Nat) (h8 : is8 f) (ho : o < 128) (ha : a < 8) (hb : b < 128) (hU : (f = 85 ∨ f = 74) → a = 0 ∧ b = 0) (hI : (f = 73 ∨ f = 66 ∨ f = 83) → b = 0) (hE : f = 69 → o = 115 ∧ a = 0 ∧ b ≤ 1)
    (x : BitVec 32) (h : asksF f o a b x = true) :
    fit (regIf (hRd f) x 7) (hRd f) = true ∧ fit (regIf (hRs1 f) x 15) (hRs1 f) = true ∧ fit (regIf (hRs2 f) x 20) (hRs2 f) = true ∧ inSpan (lo f) (hi f) (st f) (number x f) = true ∧ encF f o a b (regIf (hRd f) x 7) (regIf (hRs1 f) x 15) (regIf (hRs2 f) x 20) (number x f) = x := by
  rcases h8 with rfl | rfl | rfl | rfl | rfl | rfl | rfl | rfl
  · obtain ⟨rfl, rfl⟩ := hU (by decide); exact again_U o ho x h
  · obtain ⟨rfl, rfl⟩ := hU (by decide); exact again_J o ho x h
  · obtain rfl := hI (by decide); exact again_I o a ho ha x h
  · exact again_H o a b ho ha hb x h
  · obtain rfl := hI (by decide); exact again_B o a ho ha x h
  · obtain rfl := hI (by decide); exact again_S o a ho ha x h
  · exact again_R o a b ho ha hb x h
  · obtain ⟨rfl, rfl, _⟩ := hE rfl; exact again_E b x h

/-- What is encoded is decoded as it was. -/
theorem there (k : Nat) (h : k < 47) (rd rs1 rs2 imm : Int) (hr : right (k : Int) rd rs1 rs2 imm = true) :
    asked (enc (k : Int) rd rs1 rs2 imm) k = true ∧ regIf (hRd (kf k)) (enc (k : Int) rd rs1 rs2 imm) 7 = rd ∧ regIf (hRs1 (kf k)) (enc (k : Int) rd rs1 rs2 imm) 15 = rs1 ∧ regIf (hRs2 (kf k)) (enc (k : Int) rd rs1 rs2 imm) 20 = rs2 ∧ number (enc (k : Int) rd rs1 rs2 imm) (kf k) = imm := by
  rw [right_nat k h, Bool.and_eq_true, Bool.and_eq_true, Bool.and_eq_true] at hr
  obtain ⟨⟨⟨g1, g2⟩, g3⟩, g4⟩ := hr
  obtain ⟨c1, c2, c3, c4, c5, c6, c7, _⟩ := kind_facts k h
  rw [enc_nat]
  exact thereF _ _ _ _ c1 c2 c3 c4 c5 c6 c7 rd rs1 rs2 imm g1 g2 g3 g4
/-- What is decoded may be, and is encoded to the same word. -/
theorem again (k : Nat) (h : k < 47) (x : BitVec 32) (ha : asked x k = true) :
    right (k : Int) (regIf (hRd (kf k)) x 7) (regIf (hRs1 (kf k)) x 15) (regIf (hRs2 (kf k)) x 20) (number x (kf k)) = true ∧ enc (k : Int) (regIf (hRd (kf k)) x 7) (regIf (hRs1 (kf k)) x 15) (regIf (hRs2 (kf k)) x 20) (number x (kf k)) = x := by
  obtain ⟨c1, c2, c3, c4, c5, c6, c7, _⟩ := kind_facts k h
  obtain ⟨g1, g2, g3, g4, e⟩ := againF _ _ _ _ c1 c2 c3 c4 c5 c6 c7 x ha
  rw [enc_nat, right_nat k h, g1, g2, g3, g4]
  exact ⟨rfl, e⟩

/-- The bits that tell a kind: how many of op, f3, f7 (3: the whole word). -/
def cls (f : Nat) : Nat := if f = 85 ∨ f = 74 then 0 else if f = 73 ∨ f = 66 ∨ f = 83 then 1 else if f = 72 ∨ f = 82 then 2 else 3
theorem asksF_op {f o a b : Nat} {x : BitVec 32} (h : asksF f o a b x = true) : o = (Wd.field x 0 7).toNat := by
  unfold asksF at h; rw [Bool.and_eq_true] at h; exact beq_nat.1 h.1
theorem asksF_f3 {f o a b : Nat} {x : BitVec 32} (h8 : is8 f) (hc : cls f = 1 ∨ cls f = 2) (h : asksF f o a b x = true) : a = (Wd.field x 12 3).toNat := by
  unfold asksF at h; rw [Bool.and_eq_true] at h
  have h2 := h.2
  rcases h8 with rfl | rfl | rfl | rfl | rfl | rfl | rfl | rfl
  · exact absurd hc (by decide)
  · exact absurd hc (by decide)
  · exact (beq_nat.1 h2).symm
  · have h3 : ((((Wd.field x 12 3).toNat : Int) == (a : Int)) && (((Wd.field x 25 7).toNat : Int) == (b : Int))) = true := h2
    rw [Bool.and_eq_true] at h3; exact (beq_nat.1 h3.1).symm
  · exact (beq_nat.1 h2).symm
  · exact (beq_nat.1 h2).symm
  · have h3 : ((((Wd.field x 12 3).toNat : Int) == (a : Int)) && (((Wd.field x 25 7).toNat : Int) == (b : Int))) = true := h2
    rw [Bool.and_eq_true] at h3; exact (beq_nat.1 h3.1).symm
  · exact absurd hc (by decide)
theorem asksF_f7 {f o a b : Nat} {x : BitVec 32} (h8 : is8 f) (hc : cls f = 2) (h : asksF f o a b x = true) : b = (Wd.field x 25 7).toNat := by
  unfold asksF at h; rw [Bool.and_eq_true] at h
  have h2 := h.2
  rcases h8 with rfl | rfl | rfl | rfl | rfl | rfl | rfl | rfl
  · exact absurd hc (by decide)
  · exact absurd hc (by decide)
  · exact absurd hc (by decide)
  · have h3 : ((((Wd.field x 12 3).toNat : Int) == (a : Int)) && (((Wd.field x 25 7).toNat : Int) == (b : Int))) = true := h2
    rw [Bool.and_eq_true] at h3; exact (beq_nat.1 h3.2).symm
  · exact absurd hc (by decide)
  · exact absurd hc (by decide)
  · have h3 : ((((Wd.field x 12 3).toNat : Int) == (a : Int)) && (((Wd.field x 25 7).toNat : Int) == (b : Int))) = true := h2
    rw [Bool.and_eq_true] at h3; exact (beq_nat.1 h3.2).symm
  · exact absurd hc (by decide)
def parts (j k : Nat) : Bool := decide (j = k) || decide (ko j ≠ ko k) || (decide (cls (kf j) ≠ 0 ∧ cls (kf j) ≠ 3 ∧ cls (kf k) ≠ 0 ∧ cls (kf k) ≠ 3) && decide (k3 j ≠ k3 k)) || (decide (cls (kf j) = 2 ∧ cls (kf k) = 2) && decide (k7 j ≠ k7 k)) || (decide (kf j = 69 ∧ kf k = 69))
theorem parts_all : ∀ j, j < 47 → ∀ k, k < 47 → parts j k = true := by decide +kernel
theorem E_two (x : BitVec 32) (j k : Nat) (hj : j < 47) (hk : k < 47) (fj : kf j = 69) (fk : kf k = 69) (a : asked x j = true) (b : asked x k = true) : k7 j = k7 k := by
  obtain ⟨o1, a1, b1⟩ := (kind_facts j hj).2.2.2.2.2.2.1 fj
  obtain ⟨o2, a2, b2⟩ := (kind_facts k hk).2.2.2.2.2.2.1 fk
  unfold asked at a b
  rw [fj, o1, a1] at a
  rw [fk, o2, a2] at b
  have h1 : ((((115 : Nat) : Int) == ((Wd.field x 0 7).toNat : Int)) && ((x.toNat : Int) == ((stemW 69 115 0 (k7 j)).toNat : Int))) = true := a
  have h2 : ((((115 : Nat) : Int) == ((Wd.field x 0 7).toNat : Int)) && ((x.toNat : Int) == ((stemW 69 115 0 (k7 k)).toNat : Int))) = true := b
  rw [Bool.and_eq_true, beq_nat, beq_nat, stem_nat_E 0 _ (by omega) (by omega)] at h1 h2
  omega
theorem E_k7 : ∀ j, j < 47 → ∀ k, k < 47 → kf j = 69 → kf k = 69 → k7 j = k7 k → j = k := by decide +kernel
/-- A word has one kind at most. -/
theorem asked_one (x : BitVec 32) (j k : Nat) (hj : j < 47) (hk : k < 47) (a : asked x j = true) (b : asked x k = true) : j = k := by
  have p := parts_all j hj k hk
  unfold parts at p
  simp only [Bool.or_eq_true, Bool.and_eq_true, decide_eq_true_eq] at p
  have i8j := (kind_facts j hj).1
  have i8k := (kind_facts k hk).1
  have cl : ∀ f, cls f = 0 ∨ cls f = 1 ∨ cls f = 2 ∨ cls f = 3 := fun f => by unfold cls; (repeat' split) <;> simp
  rcases p with (((p | p) | ⟨⟨p1, p2, p3, p4⟩, p⟩) | ⟨⟨p1, p2⟩, p⟩) | ⟨p1, p2⟩
  · exact p
  · exact absurd ((asksF_op a).trans (asksF_op b).symm) p
  · have c1 := cl (kf j)
    have c2 := cl (kf k)
    exact absurd ((asksF_f3 i8j (by omega) a).trans (asksF_f3 i8k (by omega) b).symm) p
  · exact absurd ((asksF_f7 i8j p1 a).trans (asksF_f7 i8k p2 b).symm) p
  · exact E_k7 j hj k hk p1 p2 (E_two x j k hj hk p1 p2 a b)
end Ip
end Go.Proofs.Ytilphdfobflbiaa
