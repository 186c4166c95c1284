/-
  The document's words as numbers: bits that are set one by one are added. No program in sight.
-/
import Derived.Test.YtoiheamdnlaahaaIZ
namespace Go.Proofs.Ytoiheamdnlaahaa
open Go.RowKit
namespace Ip

/-- One step: the bit p is set, if b. -/
def orBit (w : BitVec 32) (p : Int) (b : Bool) : BitVec 32 := if 0 ≤ p ∧ b = true then w ||| (BitVec.ofNat 32 1 <<< p.toNat) else w
/-- The steps of a list of places, with the bits of a number v from i on. -/
def orAll (v : BitVec 32) : Nat → List Int → BitVec 32 → BitVec 32
  | _, [], w => w
  | i, p :: ps, w => orAll v (i + 1) ps (orBit w p (v.getLsbD i))
theorem orAll_snoc (v : BitVec 32) : ∀ (l : List Int) (i : Nat) (w : BitVec 32) (p : Int), orAll v i (l ++ [p]) w = orBit (orAll v i l w) p (v.getLsbD (i + l.length))
  | [], i, w, p => by simp [orAll]
  | q :: l, i, w, p => by
    simp only [List.cons_append, orAll, List.length_cons]
    rw [orAll_snoc v l (i + 1), show i + 1 + l.length = i + (l.length + 1) by omega]
theorem or_add (w : BitVec 32) (p : Nat) (hp : p < 32) (h : w.getLsbD p = false) : (w ||| (BitVec.ofNat 32 1 <<< p)).toNat = w.toNat + 2 ^ p := by
  have e : w ||| (BitVec.ofNat 32 1 <<< p) = w + (BitVec.ofNat 32 1 <<< p) := by
    rw [BitVec.add_eq_or_of_and_eq_zero]
    apply BitVec.eq_of_getLsbD_eq; intro i hi
    rw [BitVec.getLsbD_and, BitVec.getLsbD_shiftLeft]
    by_cases c : i = p
    · subst c; rw [h]; simp
    · by_cases c2 : i < p
      · simp [c2]
      · have : (BitVec.ofNat 32 1).getLsbD (i - p) = false := by
          rw [BitVec.getLsbD_ofNat]
          have : Nat.testBit 1 (i - p) = false := Nat.testBit_lt_two_pow (by
            have : 2 ^ 1 ≤ 2 ^ (i - p) := Nat.pow_le_pow_right (by omega) (by omega)
            omega)
          simp [this]
        simp [this]
  have t : (BitVec.ofNat 32 1 <<< p).toNat = 2 ^ p := by
    have l : 2 ^ p < 2 ^ 32 := Nat.pow_lt_pow_right (by omega) hp
    rw [BitVec.toNat_shiftLeft, BitVec.toNat_ofNat, Nat.shiftLeft_eq]
    rw [Nat.mod_eq_of_lt (by decide : 1 < 2 ^ 32), Nat.one_mul, Nat.mod_eq_of_lt l]
  have nc : w.toNat + 2 ^ p < 2 ^ 32 := by
    -- the bit p of w is 0, so the sum does not go over
    have hb : w.toNat / 2 ^ p % 2 = 0 := by
      have := h
      rw [BitVec.getLsbD, Nat.testBit_eq_decide_div_mod_eq, decide_eq_false_iff_not] at this
      omega
    have hw := w.isLt
    have hpp : 2 ^ 32 = 2 ^ p * (2 * 2 ^ (31 - p)) := by
      rw [← Nat.pow_succ', ← Nat.pow_add]; congr 1; omega
    have hq : w.toNat / 2 ^ p < 2 * 2 ^ (31 - p) := by
      rw [Nat.div_lt_iff_lt_mul (Nat.pow_pos (by omega)), Nat.mul_comm, ← hpp]; exact hw
    have hq2 : w.toNat / 2 ^ p + 1 < 2 * 2 ^ (31 - p) := by omega
    have hd := Nat.div_add_mod w.toNat (2 ^ p)
    have hm : w.toNat % 2 ^ p < 2 ^ p := Nat.mod_lt _ (Nat.pow_pos (by omega))
    have : 2 ^ p * (w.toNat / 2 ^ p + 2) ≤ 2 ^ p * (2 * 2 ^ (31 - p)) := Nat.mul_le_mul_left _ (by omega)
    rw [← hpp, Nat.mul_add] at this
    omega
  rw [e, BitVec.toNat_add, t, Nat.mod_eq_of_lt nc]
theorem or_other (w : BitVec 32) (p q : Nat) (h : q ≠ p) : (w ||| (BitVec.ofNat 32 1 <<< p)).getLsbD q = w.getLsbD q := by
  rw [BitVec.getLsbD_or, BitVec.getLsbD_shiftLeft]
  by_cases c : q < 32
  · by_cases c2 : q < p
    · simp [c2]
    · have : (BitVec.ofNat 32 1).getLsbD (q - p) = false := by
        rw [BitVec.getLsbD_ofNat]
        have : Nat.testBit 1 (q - p) = false := Nat.testBit_lt_two_pow (by
          have : 2 ^ 1 ≤ 2 ^ (q - p) := Nat.pow_le_pow_right (by omega) (by omega)
          omega)
        simp [this]
      simp [this]
  · simp [c]

/-- What the steps add. -/
def sumBits (v : Nat) : Nat → List Int → Nat
  | _, [] => 0
  | i, p :: ps => (if 0 ≤ p then 2 ^ p.toNat * (v / 2 ^ i % 2) else 0) + sumBits v (i + 1) ps
theorem bit_of (v : BitVec 32) (i : Nat) : v.getLsbD i = decide (v.toNat / 2 ^ i % 2 = 1) := by rw [BitVec.getLsbD, Nat.testBit_eq_decide_div_mod_eq]
theorem orAll_add (v : BitVec 32) : ∀ (l : List Int) (i : Nat) (w : BitVec 32), (∀ p ∈ l, p < 32) → (∀ p ∈ l, 0 ≤ p → w.getLsbD p.toNat = false) → l.Pairwise (fun a b => 0 ≤ a → 0 ≤ b → a ≠ b) → (orAll v i l w).toNat = w.toNat + sumBits v.toNat i l
  | [], i, w, _, _, _ => by simp [orAll, sumBits]
  | p :: l, i, w, h32, hz, hp => by
    have hl32 : ∀ q ∈ l, q < 32 := fun q hq => h32 q (List.mem_cons_of_mem _ hq)
    have hpl := (List.pairwise_cons.1 hp).2
    have hpn := (List.pairwise_cons.1 hp).1
    simp only [orAll, sumBits]
    by_cases h0 : 0 ≤ p
    · have hp32 : p.toNat < 32 := by have := h32 p (List.mem_cons_self ..); omega
      have hzp := hz p (List.mem_cons_self ..) h0
      cases hb : v.getLsbD i with
      | false =>
        have e : orBit w p false = w := by unfold orBit; rw [if_neg (by simp)]
        rw [e, orAll_add v l (i + 1) w hl32 (fun q hq => hz q (List.mem_cons_of_mem _ hq)) hpl]
        rw [bit_of, decide_eq_false_iff_not] at hb
        rw [if_pos h0, show v.toNat / 2 ^ i % 2 = 0 by omega]; omega
      | true =>
        have e : orBit w p true = w ||| (BitVec.ofNat 32 1 <<< p.toNat) := by unfold orBit; rw [if_pos ⟨h0, rfl⟩]
        rw [e, orAll_add v l (i + 1) _ hl32 (fun q hq hq0 => by
          rw [or_other _ _ _ (by have := hpn q hq h0 hq0; omega)]
          exact hz q (List.mem_cons_of_mem _ hq) hq0) hpl, or_add w _ hp32 hzp]
        rw [bit_of, decide_eq_true_eq] at hb
        rw [if_pos h0, hb]; omega
    · have e : ∀ b, orBit w p b = w := fun b => by unfold orBit; rw [if_neg (by omega)]
      rw [e, orAll_add v l (i + 1) w hl32 (fun q hq => hz q (List.mem_cons_of_mem _ hq)) hpl, if_neg h0]; omega
/-- A run of bits is a field. -/
theorem run_bits (v a : Nat) : ∀ n, v / 2 ^ a % 2 ^ (n + 1) = v / 2 ^ a % 2 ^ n + 2 ^ n * (v / 2 ^ (a + n) % 2) := by
  intro n
  rw [Nat.pow_succ, Nat.mod_mul, Nat.div_div_eq_div_mul, ← Nat.pow_add]
end Ip
end Go.Proofs.Ytoiheamdnlaahaa
