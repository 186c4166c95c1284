/-
  What the document says of instructions, as plain functions on numbers and words: forms, what they have, which numbers they can tell, and the words. No program in sight.
  Words of instructions as numbers: what is put in is added; what each form's word comes to. No program in sight.
  The word of an instruction of each form, as a number. No program in sight.
  The fields of the word of an instruction of each form; a word is told by its fields. No program in sight.
  The number that a word tells, by its form, as a sum of its pieces; and back. No program in sight.
  Words and instructions there and back, form by form. No program in sight.
  Words and instructions there and back, by the kinds; a word has one kind at most. No program in sight.
-/

import Derived.Test.YthlefedljgmmfaaZa
namespace Go.Proofs.Ythlefedljgmmfaa
open Go.RowKit
namespace Ip

/-- A kind's form, and the bits that tell it, by its number (0 where there is none). -/
def kf (k : Nat) : Nat := ([85, 85, 74, 73, 66, 66, 66, 66, 66, 66, 73, 73, 73, 73, 73, 83, 83, 83, 73, 73, 73, 73, 73, 73, 72, 72, 72, 82, 82, 82, 82, 82, 82, 82, 82, 82, 82, 82, 82, 82, 82, 82, 82, 82, 82, 69, 69] : List Nat).getD k 0
def ko (k : Nat) : Nat := ([55, 23, 111, 103, 99, 99, 99, 99, 99, 99, 3, 3, 3, 3, 3, 35, 35, 35, 19, 19, 19, 19, 19, 19, 19, 19, 19, 51, 51, 51, 51, 51, 51, 51, 51, 51, 51, 51, 51, 51, 51, 51, 51, 51, 51, 115, 115] : List Nat).getD k 0
def k3 (k : Nat) : Nat := ([0, 0, 0, 0, 0, 1, 4, 5, 6, 7, 0, 1, 2, 4, 5, 0, 1, 2, 0, 2, 3, 4, 6, 7, 1, 5, 5, 0, 0, 1, 2, 3, 4, 5, 5, 6, 7, 0, 1, 2, 3, 4, 5, 6, 7, 0, 0] : List Nat).getD k 0
def k7 (k : Nat) : Nat := ([0, 0, 0, 0, 0, 0, 0, 0, 0, 0, 0, 0, 0, 0, 0, 0, 0, 0, 0, 0, 0, 0, 0, 0, 0, 0, 32, 0, 32, 0, 0, 0, 0, 0, 32, 0, 0, 1, 1, 1, 1, 1, 1, 1, 1, 0, 1] : List Nat).getD k 0

theorem cases47 {P : Nat → Prop} (h0 : P 0) (h1 : P 1) (h2 : P 2) (h3 : P 3) (h4 : P 4) (h5 : P 5) (h6 : P 6) (h7 : P 7) (h8 : P 8) (h9 : P 9) (h10 : P 10) (h11 : P 11) (h12 : P 12) (h13 : P 13) (h14 : P 14) (h15 : P 15) (h16 : P 16) (h17 : P 17) (h18 : P 18) (h19 : P 19) (h20 : P 20) (h21 : P 21) (h22 : P 22) (h23 : P 23) (h24 : P 24) (h25 : P 25) (h26 : P 26) (h27 : P 27) (h28 : P 28) (h29 : P 29) (h30 : P 30) (h31 : P 31) (h32 : P 32) (h33 : P 33) (h34 : P 34) (h35 : P 35) (h36 : P 36) (h37 : P 37) (h38 : P 38) (h39 : P 39) (h40 : P 40) (h41 : P 41) (h42 : P 42) (h43 : P 43) (h44 : P 44) (h45 : P 45) (h46 : P 46) : ∀ k, k < 47 → P k
  | 0, _ => h0
  | 1, _ => h1
  | 2, _ => h2
  | 3, _ => h3
  | 4, _ => h4
  | 5, _ => h5
  | 6, _ => h6
  | 7, _ => h7
  | 8, _ => h8
  | 9, _ => h9
  | 10, _ => h10
  | 11, _ => h11
  | 12, _ => h12
  | 13, _ => h13
  | 14, _ => h14
  | 15, _ => h15
  | 16, _ => h16
  | 17, _ => h17
  | 18, _ => h18
  | 19, _ => h19
  | 20, _ => h20
  | 21, _ => h21
  | 22, _ => h22
  | 23, _ => h23
  | 24, _ => h24
  | 25, _ => h25
  | 26, _ => h26
  | 27, _ => h27
  | 28, _ => h28
  | 29, _ => h29
  | 30, _ => h30
  | 31, _ => h31
  | 32, _ => h32
  | 33, _ => h33
  | 34, _ => h34
  | 35, _ => h35
  | 36, _ => h36
  | 37, _ => h37
  | 38, _ => h38
  | 39, _ => h39
  | 40, _ => h40
  | 41, _ => h41
  | 42, _ => h42
  | 43, _ => h43
  | 44, _ => h44
  | 45, _ => h45
  | 46, _ => h46
  | n + 47, h => absurd h (by omega)
/-- The letters of the eight forms. -/
def is8 (f : Nat) : Prop := f = 85 ∨ f = 74 ∨ f = 73 ∨ f = 72 ∨ f = 66 ∨ f = 83 ∨ f = 82 ∨ f = 69
def frm (op : Int) : Nat := if 0 ≤ op then kf op.toNat else 0
def hRd (f : Nat) : Bool := decide (f = 85 ∨ f = 74 ∨ f = 73 ∨ f = 72 ∨ f = 82)
def hRs1 (f : Nat) : Bool := decide (f = 73 ∨ f = 72 ∨ f = 66 ∨ f = 83 ∨ f = 82)
def hRs2 (f : Nat) : Bool := decide (f = 66 ∨ f = 83 ∨ f = 82)
def fit (r : Int) (b : Bool) : Bool := if b = true then decide (0 ≤ r ∧ r ≤ 31) else decide (r = 0)
def lo (f : Nat) : Int := if f = 73 ∨ f = 83 then -2048 else if f = 66 then -4096 else if f = 74 then -1048576 else 0
def hi (f : Nat) : Int := if f = 73 ∨ f = 83 then 2047 else if f = 72 then 31 else if f = 85 then 1048575 else if f = 66 then 4094 else if f = 74 then 1048574 else 0
def st (f : Nat) : Int := if f = 66 ∨ f = 74 then 2 else 1
def inSpan (a b c n : Int) : Bool := decide (a ≤ n ∧ n ≤ b ∧ n % c = 0)
def right (op rd rs1 rs2 imm : Int) : Bool :=
  decide (frm op ≠ 0) && fit rd (hRd (frm op)) && fit rs1 (hRs1 (frm op)) && fit rs2 (hRs2 (frm op)) && inSpan (lo (frm op)) (hi (frm op)) (st (frm op)) imm
def sb (f : Nat) : Int := if f = 73 ∨ f = 83 then 12 else if f = 66 then 13 else if f = 74 then 21 else 0
/-- Where a form's number lies: the word's bit, how many, the number's bit, of each of four pieces. -/
def pcs (f : Nat) : List Int := if f = 73 then [20, 12, 0, 0, 0, 0, 0, 0, 0, 0, 0, 0] else if f = 83 then [7, 5, 0, 25, 7, 5, 0, 0, 0, 0, 0, 0] else if f = 72 then [20, 5, 0, 0, 0, 0, 0, 0, 0, 0, 0, 0]
  else if f = 85 then [12, 20, 0, 0, 0, 0, 0, 0, 0, 0, 0, 0] else if f = 66 then [31, 1, 12, 7, 1, 11, 25, 6, 5, 8, 4, 1] else if f = 74 then [31, 1, 20, 12, 8, 12, 20, 1, 11, 21, 10, 1]
  else [0, 0, 0, 0, 0, 0, 0, 0, 0, 0, 0, 0]
def pa (f i : Nat) : Int := (pcs f).getD (3 * i) 0
def pn (f i : Nat) : Int := (pcs f).getD (3 * i + 1) 0
def pt (f i : Nat) : Int := (pcs f).getD (3 * i + 2) 0
/-- The number that the first i pieces tell. -/
def numV (w : BitVec 32) (f : Nat) : Nat → BitVec 32
  | 0 => (BitVec.ofNat 32 0)
  | i + 1 => Wd.put (numV w f i) (pt f i) (pn f i) (Wd.field w (pa f i) (pn f i))
def number (w : BitVec 32) (f : Nat) : Int := (Wd.sign (numV w f 4) (sb f)).toInt
def wnV (w : BitVec 32) (f : Nat) (n : Int) : Nat → BitVec 32
  | 0 => w
  | i + 1 => Wd.put (wnV w f n i) (pa f i) (pn f i) (Wd.field (BitVec.ofInt 32 n) (pt f i) (pn f i))
def high (f : Nat) : Int := if f = 69 then 20 else 25
def stemW (f o a b : Nat) : BitVec 32 := Wd.put (Wd.put (BitVec.ofNat 32 o) 12 3 (BitVec.ofNat 32 a)) (high f) (32 - high f) (BitVec.ofNat 32 b)
def stem (k : Nat) : BitVec 32 := stemW (kf k) (ko k) (k3 k) (k7 k)
def told (f o a b : Nat) (x : BitVec 32) (p q : Int) : Bool :=
  if f = 85 ∨ f = 74 then true else if f = 73 ∨ f = 66 ∨ f = 83 then p == a else if f = 72 ∨ f = 82 then p == a && q == b else (x.toNat : Int) == ((stemW f o a b).toNat : Int)
def putIf (c : Bool) (w : BitVec 32) (a : Int) (r : Int) : BitVec 32 := if c = true then Wd.put w a 5 (BitVec.ofInt 32 r) else w
/-- An instruction's word. -/
def enc (op rd rs1 rs2 imm : Int) : BitVec 32 :=
  putIf (hRs2 (frm op)) (putIf (hRs1 (frm op)) (putIf (hRd (frm op)) (wnV (stem op.toNat) (frm op) imm 4) 7 rd) 15 rs1) 20 rs2
/-- The bits that tell a form's kinds. -/
def msk (f : Nat) : BitVec 32 := if f = 85 ∨ f = 74 then (BitVec.ofNat 32 127) else if f = 73 ∨ f = 66 ∨ f = 83 then (BitVec.ofNat 32 28799) else if f = 72 ∨ f = 82 then (BitVec.ofNat 32 4261441663) else (BitVec.ofNat 32 4294967295)
def hit (k : Nat) (w : BitVec 32) : Bool := (w &&& msk (kf k)) == stem k
def regIf (c : Bool) (w : BitVec 32) (a : Int) : Int := if c = true then ((Wd.field w a 5).toNat : Int) else 0

theorem is8_kf (k : Nat) (h : k < 47) : is8 (kf k) := by
  revert k
  refine cases47 ?_ ?_ ?_ ?_ ?_ ?_ ?_ ?_ ?_ ?_ ?_ ?_ ?_ ?_ ?_ ?_ ?_ ?_ ?_ ?_ ?_ ?_ ?_ ?_ ?_ ?_ ?_ ?_ ?_ ?_ ?_ ?_ ?_ ?_ ?_ ?_ ?_ ?_ ?_ ?_ ?_ ?_ ?_ ?_ ?_ ?_ ?_
  all_goals (unfold is8 kf; decide)
theorem kf_lt (k : Nat) (h : k < 47) : kf k < 256 := by
  have := is8_kf k h; unfold is8 at this; omega
theorem getD_lt (l : List Nat) (m : Nat) (h : ∀ x ∈ l, x < m) (hm : 0 < m) (k : Nat) : l.getD k 0 < m := by
  rw [List.getD_eq_getElem?_getD]
  cases e : l[k]? with
  | none => simpa using hm
  | some y => exact h y (List.mem_of_getElem? e)
theorem ko_lt (k : Nat) : ko k < 256 := getD_lt _ _ (by decide) (by decide) k
theorem k3_lt (k : Nat) : k3 k < 256 := getD_lt _ _ (by decide) (by decide) k
theorem k7_lt (k : Nat) : k7 k < 256 := getD_lt _ _ (by decide) (by decide) k
theorem field_lt (x : BitVec 32) (a n : Int) (h : Wd.within a n = true) : ((Wd.field x a n).toNat : Int) < 2 ^ n.toNat := by
  have hb := Wd.of_within h
  unfold Wd.field; rw [if_pos h, BitVec.toNat_and, Wd.mask_toNat _ (by omega), Nat.and_two_pow_sub_one_eq_mod]
  have : (x >>> a.toNat).toNat % 2 ^ n.toNat < 2 ^ n.toNat := Nat.mod_lt _ (Nat.pow_pos (by decide))
  exact_mod_cast this
theorem kf_zero (k : Nat) (h : 47 ≤ k) : kf k = 0 := by
  unfold kf; rw [List.getD_eq_getElem?_getD, List.getElem?_eq_none (by simpa using h)]; rfl
end Ip
end Go.Proofs.Ythlefedljgmmfaa
namespace Go.Proofs.Ythlefedljgmmfaa
open Go.RowKit
namespace Ip

theorem field_nat (x : BitVec 32) (a n : Int) (A N : Nat) (hA : a = A) (hN : n = N) (h : 1 ≤ N) (h2 : A + N ≤ 32) : (Wd.field x a n).toNat = x.toNat / 2 ^ A % 2 ^ N := by
  subst hA hN
  have hw := Wd.within_of (A : Int) (N : Int) (by omega)
  unfold Wd.field
  rw [if_pos hw, BitVec.toNat_and, Wd.mask_toNat _ (by omega), Nat.and_two_pow_sub_one_eq_mod, BitVec.toNat_ushiftRight, Nat.shiftRight_eq_div_pow]
  simp

theorem put_parts (x v : BitVec 32) (a n : Int) (A N : Nat) (hA : a = A) (hN : n = N) (h : 1 ≤ N) (h2 : A + N ≤ 32) :
    (Wd.put x a n v).toNat % 2 ^ A = x.toNat % 2 ^ A ∧ (Wd.put x a n v).toNat / 2 ^ A % 2 ^ N = v.toNat % 2 ^ N ∧ (Wd.put x a n v).toNat / 2 ^ (A + N) = x.toNat / 2 ^ (A + N) := by
  subst hA hN
  have hw := Wd.within_of (A : Int) (N : Int) (by omega)
  have big : ∀ (y : BitVec 32) i, 32 ≤ i → y.toNat.testBit i = false := fun y i hi => Nat.testBit_lt_two_pow (Nat.lt_of_lt_of_le y.isLt (Nat.pow_le_pow_right (by omega) hi))
  have hg : ∀ i, (Wd.put x (A : Int) (N : Int) v).toNat.testBit i = if A ≤ i ∧ i < A + N then v.toNat.testBit (i - A) else x.toNat.testBit i := by
    intro i
    by_cases hi : i < 32
    · have := Wd.put_get x (A : Int) (N : Int) v hw i hi
      simp only [Int.toNat_natCast] at this
      exact this
    · rw [big _ i (by omega), if_neg (by omega), big _ i (by omega)]
  refine ⟨?_, ?_, ?_⟩
  · apply Nat.eq_of_testBit_eq; intro i
    rw [Nat.testBit_mod_two_pow, Nat.testBit_mod_two_pow, hg]
    by_cases h : i < A
    · rw [if_neg (by omega)]
    · simp [h]
  · apply Nat.eq_of_testBit_eq; intro i
    rw [Nat.testBit_mod_two_pow, Nat.testBit_mod_two_pow, Nat.testBit_div_two_pow, hg]
    by_cases h : i < N
    · rw [if_pos (by omega), show i + A - A = i by omega]
    · simp [h]
  · apply Nat.eq_of_testBit_eq; intro i
    rw [Nat.testBit_div_two_pow, Nat.testBit_div_two_pow, hg, if_neg (by omega)]

theorem put_apart (x v : BitVec 32) (a n : Int) (A N B M : Nat) (hA : a = A) (hN : n = N) (h : 1 ≤ N) (h2 : A + N ≤ 32) (hd : B + M ≤ A ∨ A + N ≤ B) :
    (Wd.put x a n v).toNat / 2 ^ B % 2 ^ M = x.toNat / 2 ^ B % 2 ^ M := by
  subst hA hN
  have hw := Wd.within_of (A : Int) (N : Int) (by omega)
  have big : ∀ (y : BitVec 32) i, 32 ≤ i → y.toNat.testBit i = false := fun y i hi => Nat.testBit_lt_two_pow (Nat.lt_of_lt_of_le y.isLt (Nat.pow_le_pow_right (by omega) hi))
  have hg : ∀ i, (Wd.put x (A : Int) (N : Int) v).toNat.testBit i = if A ≤ i ∧ i < A + N then v.toNat.testBit (i - A) else x.toNat.testBit i := by
    intro i
    by_cases hi : i < 32
    · have := Wd.put_get x (A : Int) (N : Int) v hw i hi
      simp only [Int.toNat_natCast] at this
      exact this
    · rw [big _ i (by omega), if_neg (by omega), big _ i (by omega)]
  apply Nat.eq_of_testBit_eq; intro i
  rw [Nat.testBit_mod_two_pow, Nat.testBit_mod_two_pow, Nat.testBit_div_two_pow, Nat.testBit_div_two_pow, hg]
  by_cases h : i < M
  · rw [if_neg (by omega)]
  · simp [h]

theorem put_add (x v : BitVec 32) (a n : Int) (A N : Nat) (hA : a = A) (hN : n = N) (h : 1 ≤ N) (h2 : A + N ≤ 32) (hz : x.toNat / 2 ^ A % 2 ^ N = 0) :
    (Wd.put x a n v).toNat = x.toNat + 2 ^ A * (v.toNat % 2 ^ N) := by
  obtain ⟨p1, p2, p3⟩ := put_parts x v a n A N hA hN h h2
  rw [Nat.pow_add, ← Nat.div_div_eq_div_mul, ← Nat.div_div_eq_div_mul] at p3
  have d := fun y : Nat => Nat.div_add_mod y (2 ^ A)
  have e := fun y : Nat => Nat.div_add_mod (y / 2 ^ A) (2 ^ N)
  have a1 := d x.toNat
  have a2 := d (Wd.put x a n v).toNat
  have b1 := e x.toNat
  have b2 := e (Wd.put x a n v).toNat
  rw [hz, Nat.add_zero] at b1
  rw [p2, p3] at b2
  rw [p1, ← b2, Nat.mul_add, b1] at a2
  generalize 2 ^ A * (x.toNat / 2 ^ A) = q1 at *
  generalize 2 ^ A * (v.toNat % 2 ^ N) = q2 at *
  omega
theorem put_none (x v : BitVec 32) : Wd.put x 0 0 v = x := by unfold Wd.put; rw [if_neg (by decide)]
theorem ofInt_nat (n : Int) : ((BitVec.ofInt 32 n).toNat : Int) = n % 4294967296 := (Wd.cut_ n).symm

theorem sign_int (v : BitVec 32) (n : Int) (N : Nat) (hn : n = N) (h1 : 1 ≤ N) (h2 : N ≤ 31) (hv : v.toNat < 2 ^ N) : (Wd.sign v n).toInt = if v.toNat < 2 ^ (N - 1) then (v.toNat : Int) else (v.toNat : Int) - 2 ^ N := by
  subst hn
  have hb : v.getLsbD (N - 1) = decide (2 ^ (N - 1) ≤ v.toNat) := by
    rw [BitVec.getLsbD, Nat.testBit_eq_decide_div_mod_eq]
    have e : 2 ^ N = 2 * 2 ^ (N - 1) := by rw [← Nat.pow_succ']; congr 1; omega
    have p : 0 < 2 ^ (N - 1) := Nat.pow_pos (by omega)
    congr 1
    rw [eq_iff_iff]
    constructor
    · intro h
      apply Nat.le_of_not_lt
      intro hc
      rw [Nat.div_eq_of_lt hc] at h; omega
    · intro h
      have : v.toNat / 2 ^ (N - 1) = 1 := by
        apply Nat.div_eq_of_lt_le <;> omega
      rw [this]
  have hm : (Wd.mask N).toNat = 2 ^ N - 1 := Wd.mask_toNat N (by omega)
  have hlt : 2 ^ N ≤ 2 ^ 31 := Nat.pow_le_pow_right (by omega) h2
  have hand : (v &&& Wd.mask N) = v := by
    apply BitVec.eq_of_toNat_eq
    rw [BitVec.toNat_and, hm, Nat.and_two_pow_sub_one_eq_mod, Nat.mod_eq_of_lt hv]
  unfold Wd.sign
  rw [if_pos (by omega), Int.toNat_natCast, hb]
  by_cases h : v.toNat < 2 ^ (N - 1)
  · rw [if_neg (by simpa using h), if_pos h, hand, BitVec.toInt_eq_toNat_cond, if_pos (by omega)]
  · rw [if_pos (by simpa using h), if_neg h]
    have hs : (v ||| ~~~ Wd.mask N) = v + ~~~ Wd.mask N := by
      rw [BitVec.add_eq_or_of_and_eq_zero]
      rw [← hand, BitVec.and_assoc]; simp
    have hn : (v + ~~~ Wd.mask N).toNat = v.toNat + (4294967296 - 2 ^ N) := by
      rw [BitVec.toNat_add, BitVec.toNat_not, hm, Nat.mod_eq_of_lt (by omega)]; omega
    rw [hs, BitVec.toInt_eq_toNat_cond, hn, if_neg (by omega)]
    have : ((2 ^ N : Nat) : Int) = 2 ^ N := by simp
    omega
end Ip
end Go.Proofs.Ythlefedljgmmfaa
namespace Go.Proofs.Ythlefedljgmmfaa
open Go.RowKit
namespace Ip

theorem stem_nat (f o a b : Nat) (hf : f ≠ 69) (ho : o < 128) (ha : a < 8) (hb : b < 128) : (stemW f o a b).toNat = o + 4096 * a + 33554432 * b := by
  have e0 : (BitVec.ofNat 32 o).toNat = o := by rw [BitVec.toNat_ofNat]; omega
  have ea : (BitVec.ofNat 32 a).toNat = a := by rw [BitVec.toNat_ofNat]; omega
  have eb : (BitVec.ofNat 32 b).toNat = b := by rw [BitVec.toNat_ofNat]; omega
  have p1 := put_add (BitVec.ofNat 32 o) (BitVec.ofNat 32 a) 12 3 12 3 rfl rfl (by omega) (by omega) (by rw [e0]; omega)
  have p2 := put_add (Wd.put (BitVec.ofNat 32 o) 12 3 (BitVec.ofNat 32 a)) (BitVec.ofNat 32 b) 25 7 25 7 rfl rfl (by omega) (by omega) (by rw [p1, e0, ea]; omega)
  unfold stemW high; rw [if_neg hf]
  show (Wd.put _ 25 7 _).toNat = _
  rw [p2, p1, e0, ea, eb]; omega
theorem stem_nat_E (a b : Nat) (ha : a < 8) (hb : b < 4096) : (stemW 69 115 a b).toNat = 115 + 4096 * a + 1048576 * b := by
  have e0 : (BitVec.ofNat 32 115).toNat = 115 := by rw [BitVec.toNat_ofNat]
  have ea : (BitVec.ofNat 32 a).toNat = a := by rw [BitVec.toNat_ofNat]; omega
  have eb : (BitVec.ofNat 32 b).toNat = b := by rw [BitVec.toNat_ofNat]; omega
  have p1 := put_add (BitVec.ofNat 32 115) (BitVec.ofNat 32 a) 12 3 12 3 rfl rfl (by omega) (by omega) (by rw [e0])
  have p2 := put_add (Wd.put (BitVec.ofNat 32 115) 12 3 (BitVec.ofNat 32 a)) (BitVec.ofNat 32 b) 20 12 20 12 rfl rfl (by omega) (by omega) (by rw [p1, e0, ea]; omega)
  unfold stemW high; rw [if_pos rfl]
  show (Wd.put _ 20 12 _).toNat = _
  rw [p2, p1, e0, ea, eb]; omega
theorem word_U (t c0 r1 : BitVec 32) (o : Nat) (ho : o < 128) (hs : t.toNat = o) :
    (Wd.put (Wd.put t 12 20 c0) 7 5 r1).toNat = t.toNat + 2 ^ 12 * (c0.toNat % 2 ^ 20) + 2 ^ 7 * (r1.toNat % 2 ^ 5) := by
  have p0 := put_add t c0 12 20 12 20 rfl rfl (by omega) (by omega) (by rw [hs]; omega)
  have p1 := put_add (Wd.put t 12 20 c0) r1 7 5 7 5 rfl rfl (by omega) (by omega) (by rw [put_apart _ _ 12 20 12 20 7 5 rfl rfl (by omega) (by omega) (by omega), hs]; omega)
  rw [p1, p0]
theorem word_J (t c0 c1 c2 c3 r1 : BitVec 32) (o : Nat) (ho : o < 128) (hs : t.toNat = o) :
    (Wd.put (Wd.put (Wd.put (Wd.put (Wd.put t 31 1 c0) 12 8 c1) 20 1 c2) 21 10 c3) 7 5 r1).toNat = t.toNat + 2 ^ 31 * (c0.toNat % 2 ^ 1) + 2 ^ 12 * (c1.toNat % 2 ^ 8) + 2 ^ 20 * (c2.toNat % 2 ^ 1) + 2 ^ 21 * (c3.toNat % 2 ^ 10) + 2 ^ 7 * (r1.toNat % 2 ^ 5) := by
  have p0 := put_add t c0 31 1 31 1 rfl rfl (by omega) (by omega) (by rw [hs]; omega)
  have p1 := put_add (Wd.put t 31 1 c0) c1 12 8 12 8 rfl rfl (by omega) (by omega) (by rw [put_apart _ _ 31 1 31 1 12 8 rfl rfl (by omega) (by omega) (by omega), hs]; omega)
  have p2 := put_add (Wd.put (Wd.put t 31 1 c0) 12 8 c1) c2 20 1 20 1 rfl rfl (by omega) (by omega) (by rw [put_apart _ _ 12 8 12 8 20 1 rfl rfl (by omega) (by omega) (by omega), put_apart _ _ 31 1 31 1 20 1 rfl rfl (by omega) (by omega) (by omega), hs]; omega)
  have p3 := put_add (Wd.put (Wd.put (Wd.put t 31 1 c0) 12 8 c1) 20 1 c2) c3 21 10 21 10 rfl rfl (by omega) (by omega) (by rw [put_apart _ _ 20 1 20 1 21 10 rfl rfl (by omega) (by omega) (by omega), put_apart _ _ 12 8 12 8 21 10 rfl rfl (by omega) (by omega) (by omega), put_apart _ _ 31 1 31 1 21 10 rfl rfl (by omega) (by omega) (by omega), hs]; omega)
  have p4 := put_add (Wd.put (Wd.put (Wd.put (Wd.put t 31 1 c0) 12 8 c1) 20 1 c2) 21 10 c3) r1 7 5 7 5 rfl rfl (by omega) (by omega) (by rw [put_apart _ _ 21 10 21 10 7 5 rfl rfl (by omega) (by omega) (by omega), put_apart _ _ 20 1 20 1 7 5 rfl rfl (by omega) (by omega) (by omega), put_apart _ _ 12 8 12 8 7 5 rfl rfl (by omega) (by omega) (by omega), put_apart _ _ 31 1 31 1 7 5 rfl rfl (by omega) (by omega) (by omega), hs]; omega)
  rw [p4, p3, p2, p1, p0]
theorem word_I (t c0 r1 r2 : BitVec 32) (o a : Nat) (ho : o < 128) (hs : t.toNat = o + 4096 * a) (ha : a < 8) :
    (Wd.put (Wd.put (Wd.put t 20 12 c0) 7 5 r1) 15 5 r2).toNat = t.toNat + 2 ^ 20 * (c0.toNat % 2 ^ 12) + 2 ^ 7 * (r1.toNat % 2 ^ 5) + 2 ^ 15 * (r2.toNat % 2 ^ 5) := by
  have p0 := put_add t c0 20 12 20 12 rfl rfl (by omega) (by omega) (by rw [hs]; omega)
  have p1 := put_add (Wd.put t 20 12 c0) r1 7 5 7 5 rfl rfl (by omega) (by omega) (by rw [put_apart _ _ 20 12 20 12 7 5 rfl rfl (by omega) (by omega) (by omega), hs]; omega)
  have p2 := put_add (Wd.put (Wd.put t 20 12 c0) 7 5 r1) r2 15 5 15 5 rfl rfl (by omega) (by omega) (by rw [put_apart _ _ 7 5 7 5 15 5 rfl rfl (by omega) (by omega) (by omega), put_apart _ _ 20 12 20 12 15 5 rfl rfl (by omega) (by omega) (by omega), hs]; omega)
  rw [p2, p1, p0]
theorem word_H (t c0 r1 r2 : BitVec 32) (o a b : Nat) (ho : o < 128) (hs : t.toNat = o + 4096 * a + 33554432 * b) (ha : a < 8) :
    (Wd.put (Wd.put (Wd.put t 20 5 c0) 7 5 r1) 15 5 r2).toNat = t.toNat + 2 ^ 20 * (c0.toNat % 2 ^ 5) + 2 ^ 7 * (r1.toNat % 2 ^ 5) + 2 ^ 15 * (r2.toNat % 2 ^ 5) := by
  have p0 := put_add t c0 20 5 20 5 rfl rfl (by omega) (by omega) (by rw [hs]; omega)
  have p1 := put_add (Wd.put t 20 5 c0) r1 7 5 7 5 rfl rfl (by omega) (by omega) (by rw [put_apart _ _ 20 5 20 5 7 5 rfl rfl (by omega) (by omega) (by omega), hs]; omega)
  have p2 := put_add (Wd.put (Wd.put t 20 5 c0) 7 5 r1) r2 15 5 15 5 rfl rfl (by omega) (by omega) (by rw [put_apart _ _ 7 5 7 5 15 5 rfl rfl (by omega) (by omega) (by omega), put_apart _ _ 20 5 20 5 15 5 rfl rfl (by omega) (by omega) (by omega), hs]; omega)
  rw [p2, p1, p0]
theorem word_B (t c0 c1 c2 c3 r2 r3 : BitVec 32) (o a : Nat) (ho : o < 128) (hs : t.toNat = o + 4096 * a) (ha : a < 8) :
    (Wd.put (Wd.put (Wd.put (Wd.put (Wd.put (Wd.put t 31 1 c0) 7 1 c1) 25 6 c2) 8 4 c3) 15 5 r2) 20 5 r3).toNat = t.toNat + 2 ^ 31 * (c0.toNat % 2 ^ 1) + 2 ^ 7 * (c1.toNat % 2 ^ 1) + 2 ^ 25 * (c2.toNat % 2 ^ 6) + 2 ^ 8 * (c3.toNat % 2 ^ 4) + 2 ^ 15 * (r2.toNat % 2 ^ 5) + 2 ^ 20 * (r3.toNat % 2 ^ 5) := by
  have p0 := put_add t c0 31 1 31 1 rfl rfl (by omega) (by omega) (by rw [hs]; omega)
  have p1 := put_add (Wd.put t 31 1 c0) c1 7 1 7 1 rfl rfl (by omega) (by omega) (by rw [put_apart _ _ 31 1 31 1 7 1 rfl rfl (by omega) (by omega) (by omega), hs]; omega)
  have p2 := put_add (Wd.put (Wd.put t 31 1 c0) 7 1 c1) c2 25 6 25 6 rfl rfl (by omega) (by omega) (by rw [put_apart _ _ 7 1 7 1 25 6 rfl rfl (by omega) (by omega) (by omega), put_apart _ _ 31 1 31 1 25 6 rfl rfl (by omega) (by omega) (by omega), hs]; omega)
  have p3 := put_add (Wd.put (Wd.put (Wd.put t 31 1 c0) 7 1 c1) 25 6 c2) c3 8 4 8 4 rfl rfl (by omega) (by omega) (by rw [put_apart _ _ 25 6 25 6 8 4 rfl rfl (by omega) (by omega) (by omega), put_apart _ _ 7 1 7 1 8 4 rfl rfl (by omega) (by omega) (by omega), put_apart _ _ 31 1 31 1 8 4 rfl rfl (by omega) (by omega) (by omega), hs]; omega)
  have p4 := put_add (Wd.put (Wd.put (Wd.put (Wd.put t 31 1 c0) 7 1 c1) 25 6 c2) 8 4 c3) r2 15 5 15 5 rfl rfl (by omega) (by omega) (by rw [put_apart _ _ 8 4 8 4 15 5 rfl rfl (by omega) (by omega) (by omega), put_apart _ _ 25 6 25 6 15 5 rfl rfl (by omega) (by omega) (by omega), put_apart _ _ 7 1 7 1 15 5 rfl rfl (by omega) (by omega) (by omega), put_apart _ _ 31 1 31 1 15 5 rfl rfl (by omega) (by omega) (by omega), hs]; omega)
  have p5 := put_add (Wd.put (Wd.put (Wd.put (Wd.put (Wd.put t 31 1 c0) 7 1 c1) 25 6 c2) 8 4 c3) 15 5 r2) r3 20 5 20 5 rfl rfl (by omega) (by omega) (by rw [put_apart _ _ 15 5 15 5 20 5 rfl rfl (by omega) (by omega) (by omega), put_apart _ _ 8 4 8 4 20 5 rfl rfl (by omega) (by omega) (by omega), put_apart _ _ 25 6 25 6 20 5 rfl rfl (by omega) (by omega) (by omega), put_apart _ _ 7 1 7 1 20 5 rfl rfl (by omega) (by omega) (by omega), put_apart _ _ 31 1 31 1 20 5 rfl rfl (by omega) (by omega) (by omega), hs]; omega)
  rw [p5, p4, p3, p2, p1, p0]
theorem word_S (t c0 c1 r2 r3 : BitVec 32) (o a : Nat) (ho : o < 128) (hs : t.toNat = o + 4096 * a) (ha : a < 8) :
    (Wd.put (Wd.put (Wd.put (Wd.put t 7 5 c0) 25 7 c1) 15 5 r2) 20 5 r3).toNat = t.toNat + 2 ^ 7 * (c0.toNat % 2 ^ 5) + 2 ^ 25 * (c1.toNat % 2 ^ 7) + 2 ^ 15 * (r2.toNat % 2 ^ 5) + 2 ^ 20 * (r3.toNat % 2 ^ 5) := by
  have p0 := put_add t c0 7 5 7 5 rfl rfl (by omega) (by omega) (by rw [hs]; omega)
  have p1 := put_add (Wd.put t 7 5 c0) c1 25 7 25 7 rfl rfl (by omega) (by omega) (by rw [put_apart _ _ 7 5 7 5 25 7 rfl rfl (by omega) (by omega) (by omega), hs]; omega)
  have p2 := put_add (Wd.put (Wd.put t 7 5 c0) 25 7 c1) r2 15 5 15 5 rfl rfl (by omega) (by omega) (by rw [put_apart _ _ 25 7 25 7 15 5 rfl rfl (by omega) (by omega) (by omega), put_apart _ _ 7 5 7 5 15 5 rfl rfl (by omega) (by omega) (by omega), hs]; omega)
  have p3 := put_add (Wd.put (Wd.put (Wd.put t 7 5 c0) 25 7 c1) 15 5 r2) r3 20 5 20 5 rfl rfl (by omega) (by omega) (by rw [put_apart _ _ 15 5 15 5 20 5 rfl rfl (by omega) (by omega) (by omega), put_apart _ _ 25 7 25 7 20 5 rfl rfl (by omega) (by omega) (by omega), put_apart _ _ 7 5 7 5 20 5 rfl rfl (by omega) (by omega) (by omega), hs]; omega)
  rw [p3, p2, p1, p0]
theorem word_R (t r1 r2 r3 : BitVec 32) (o a b : Nat) (ho : o < 128) (hs : t.toNat = o + 4096 * a + 33554432 * b) (ha : a < 8) :
    (Wd.put (Wd.put (Wd.put t 7 5 r1) 15 5 r2) 20 5 r3).toNat = t.toNat + 2 ^ 7 * (r1.toNat % 2 ^ 5) + 2 ^ 15 * (r2.toNat % 2 ^ 5) + 2 ^ 20 * (r3.toNat % 2 ^ 5) := by
  have p0 := put_add t r1 7 5 7 5 rfl rfl (by omega) (by omega) (by rw [hs]; omega)
  have p1 := put_add (Wd.put t 7 5 r1) r2 15 5 15 5 rfl rfl (by omega) (by omega) (by rw [put_apart _ _ 7 5 7 5 15 5 rfl rfl (by omega) (by omega) (by omega), hs]; omega)
  have p2 := put_add (Wd.put (Wd.put t 7 5 r1) 15 5 r2) r3 20 5 20 5 rfl rfl (by omega) (by omega) (by rw [put_apart _ _ 15 5 15 5 20 5 rfl rfl (by omega) (by omega) (by omega), put_apart _ _ 7 5 7 5 20 5 rfl rfl (by omega) (by omega) (by omega), hs]; omega)
  rw [p2, p1, p0]
end Ip
end Go.Proofs.Ythlefedljgmmfaa
namespace Go.Proofs.Ythlefedljgmmfaa
open Go.RowKit
namespace Ip

theorem join_top {x y A N : Nat} (h : x / 2 ^ (A + N) = y / 2 ^ (A + N)) (e : x / 2 ^ A % 2 ^ N = y / 2 ^ A % 2 ^ N) : x / 2 ^ A = y / 2 ^ A := by
  rw [Nat.pow_add, ← Nat.div_div_eq_div_mul, ← Nat.div_div_eq_div_mul] at h
  rw [← Nat.div_add_mod (x / 2 ^ A) (2 ^ N), ← Nat.div_add_mod (y / 2 ^ A) (2 ^ N), h, e]
theorem top32 (x : BitVec 32) : x.toNat / 2 ^ 32 = 0 := Nat.div_eq_of_lt x.isLt
theorem fields_U (t c0 r1 : BitVec 32) (o : Nat) (ho : o < 128) (hs : t.toNat = o) :
    (Wd.put (Wd.put t 12 20 c0) 7 5 r1).toNat / 2 ^ 12 % 2 ^ 20 = c0.toNat % 2 ^ 20 ∧ (Wd.put (Wd.put t 12 20 c0) 7 5 r1).toNat / 2 ^ 7 % 2 ^ 5 = r1.toNat % 2 ^ 5 ∧ (Wd.put (Wd.put t 12 20 c0) 7 5 r1).toNat / 2 ^ 0 % 2 ^ 7 = o := by
  refine ⟨?_, ?_, ?_⟩
  · rw [put_apart _ _ 7 5 7 5 12 20 rfl rfl (by omega) (by omega) (by omega)]; exact (put_parts _ _ 12 20 12 20 rfl rfl (by omega) (by omega)).2.1
  · exact (put_parts _ _ 7 5 7 5 rfl rfl (by omega) (by omega)).2.1
  · rw [put_apart _ _ 7 5 7 5 0 7 rfl rfl (by omega) (by omega) (by omega), put_apart _ _ 12 20 12 20 0 7 rfl rfl (by omega) (by omega) (by omega), hs]; omega
theorem eq_U (x y : BitVec 32) (h0 : x.toNat / 2 ^ 0 % 2 ^ 7 = y.toNat / 2 ^ 0 % 2 ^ 7) (h1 : x.toNat / 2 ^ 7 % 2 ^ 5 = y.toNat / 2 ^ 7 % 2 ^ 5) (h2 : x.toNat / 2 ^ 12 % 2 ^ 20 = y.toNat / 2 ^ 12 % 2 ^ 20) : x = y := by
  have e := (join_top (A := 0) (N := 7) (join_top (A := 7) (N := 5) (join_top (A := 12) (N := 20) ((top32 x).trans (top32 y).symm) h2) h1) h0)
  apply BitVec.eq_of_toNat_eq; simpa using e
theorem fields_J (t c0 c1 c2 c3 r1 : BitVec 32) (o : Nat) (ho : o < 128) (hs : t.toNat = o) :
    (Wd.put (Wd.put (Wd.put (Wd.put (Wd.put t 31 1 c0) 12 8 c1) 20 1 c2) 21 10 c3) 7 5 r1).toNat / 2 ^ 31 % 2 ^ 1 = c0.toNat % 2 ^ 1 ∧ (Wd.put (Wd.put (Wd.put (Wd.put (Wd.put t 31 1 c0) 12 8 c1) 20 1 c2) 21 10 c3) 7 5 r1).toNat / 2 ^ 12 % 2 ^ 8 = c1.toNat % 2 ^ 8 ∧ (Wd.put (Wd.put (Wd.put (Wd.put (Wd.put t 31 1 c0) 12 8 c1) 20 1 c2) 21 10 c3) 7 5 r1).toNat / 2 ^ 20 % 2 ^ 1 = c2.toNat % 2 ^ 1 ∧ (Wd.put (Wd.put (Wd.put (Wd.put (Wd.put t 31 1 c0) 12 8 c1) 20 1 c2) 21 10 c3) 7 5 r1).toNat / 2 ^ 21 % 2 ^ 10 = c3.toNat % 2 ^ 10 ∧ (Wd.put (Wd.put (Wd.put (Wd.put (Wd.put t 31 1 c0) 12 8 c1) 20 1 c2) 21 10 c3) 7 5 r1).toNat / 2 ^ 7 % 2 ^ 5 = r1.toNat % 2 ^ 5 ∧ (Wd.put (Wd.put (Wd.put (Wd.put (Wd.put t 31 1 c0) 12 8 c1) 20 1 c2) 21 10 c3) 7 5 r1).toNat / 2 ^ 0 % 2 ^ 7 = o := by
  refine ⟨?_, ?_, ?_, ?_, ?_, ?_⟩
  · rw [put_apart _ _ 7 5 7 5 31 1 rfl rfl (by omega) (by omega) (by omega), put_apart _ _ 21 10 21 10 31 1 rfl rfl (by omega) (by omega) (by omega), put_apart _ _ 20 1 20 1 31 1 rfl rfl (by omega) (by omega) (by omega), put_apart _ _ 12 8 12 8 31 1 rfl rfl (by omega) (by omega) (by omega)]; exact (put_parts _ _ 31 1 31 1 rfl rfl (by omega) (by omega)).2.1
  · rw [put_apart _ _ 7 5 7 5 12 8 rfl rfl (by omega) (by omega) (by omega), put_apart _ _ 21 10 21 10 12 8 rfl rfl (by omega) (by omega) (by omega), put_apart _ _ 20 1 20 1 12 8 rfl rfl (by omega) (by omega) (by omega)]; exact (put_parts _ _ 12 8 12 8 rfl rfl (by omega) (by omega)).2.1
  · rw [put_apart _ _ 7 5 7 5 20 1 rfl rfl (by omega) (by omega) (by omega), put_apart _ _ 21 10 21 10 20 1 rfl rfl (by omega) (by omega) (by omega)]; exact (put_parts _ _ 20 1 20 1 rfl rfl (by omega) (by omega)).2.1
  · rw [put_apart _ _ 7 5 7 5 21 10 rfl rfl (by omega) (by omega) (by omega)]; exact (put_parts _ _ 21 10 21 10 rfl rfl (by omega) (by omega)).2.1
  · exact (put_parts _ _ 7 5 7 5 rfl rfl (by omega) (by omega)).2.1
  · rw [put_apart _ _ 7 5 7 5 0 7 rfl rfl (by omega) (by omega) (by omega), put_apart _ _ 21 10 21 10 0 7 rfl rfl (by omega) (by omega) (by omega), put_apart _ _ 20 1 20 1 0 7 rfl rfl (by omega) (by omega) (by omega), put_apart _ _ 12 8 12 8 0 7 rfl rfl (by omega) (by omega) (by omega), put_apart _ _ 31 1 31 1 0 7 rfl rfl (by omega) (by omega) (by omega), hs]; omega
theorem eq_J (x y : BitVec 32) (h0 : x.toNat / 2 ^ 0 % 2 ^ 7 = y.toNat / 2 ^ 0 % 2 ^ 7) (h1 : x.toNat / 2 ^ 7 % 2 ^ 5 = y.toNat / 2 ^ 7 % 2 ^ 5) (h2 : x.toNat / 2 ^ 12 % 2 ^ 8 = y.toNat / 2 ^ 12 % 2 ^ 8) (h3 : x.toNat / 2 ^ 20 % 2 ^ 1 = y.toNat / 2 ^ 20 % 2 ^ 1) (h4 : x.toNat / 2 ^ 21 % 2 ^ 10 = y.toNat / 2 ^ 21 % 2 ^ 10) (h5 : x.toNat / 2 ^ 31 % 2 ^ 1 = y.toNat / 2 ^ 31 % 2 ^ 1) : x = y := by
  have e := (join_top (A := 0) (N := 7) (join_top (A := 7) (N := 5) (join_top (A := 12) (N := 8) (join_top (A := 20) (N := 1) (join_top (A := 21) (N := 10) (join_top (A := 31) (N := 1) ((top32 x).trans (top32 y).symm) h5) h4) h3) h2) h1) h0)
  apply BitVec.eq_of_toNat_eq; simpa using e
theorem fields_I (t c0 r1 r2 : BitVec 32) (o a : Nat) (ho : o < 128) (hs : t.toNat = o + 4096 * a) (ha : a < 8) :
    (Wd.put (Wd.put (Wd.put t 20 12 c0) 7 5 r1) 15 5 r2).toNat / 2 ^ 20 % 2 ^ 12 = c0.toNat % 2 ^ 12 ∧ (Wd.put (Wd.put (Wd.put t 20 12 c0) 7 5 r1) 15 5 r2).toNat / 2 ^ 7 % 2 ^ 5 = r1.toNat % 2 ^ 5 ∧ (Wd.put (Wd.put (Wd.put t 20 12 c0) 7 5 r1) 15 5 r2).toNat / 2 ^ 15 % 2 ^ 5 = r2.toNat % 2 ^ 5 ∧ (Wd.put (Wd.put (Wd.put t 20 12 c0) 7 5 r1) 15 5 r2).toNat / 2 ^ 0 % 2 ^ 7 = o ∧ (Wd.put (Wd.put (Wd.put t 20 12 c0) 7 5 r1) 15 5 r2).toNat / 2 ^ 12 % 2 ^ 3 = a := by
  refine ⟨?_, ?_, ?_, ?_, ?_⟩
  · rw [put_apart _ _ 15 5 15 5 20 12 rfl rfl (by omega) (by omega) (by omega), put_apart _ _ 7 5 7 5 20 12 rfl rfl (by omega) (by omega) (by omega)]; exact (put_parts _ _ 20 12 20 12 rfl rfl (by omega) (by omega)).2.1
  · rw [put_apart _ _ 15 5 15 5 7 5 rfl rfl (by omega) (by omega) (by omega)]; exact (put_parts _ _ 7 5 7 5 rfl rfl (by omega) (by omega)).2.1
  · exact (put_parts _ _ 15 5 15 5 rfl rfl (by omega) (by omega)).2.1
  · rw [put_apart _ _ 15 5 15 5 0 7 rfl rfl (by omega) (by omega) (by omega), put_apart _ _ 7 5 7 5 0 7 rfl rfl (by omega) (by omega) (by omega), put_apart _ _ 20 12 20 12 0 7 rfl rfl (by omega) (by omega) (by omega), hs]; omega
  · rw [put_apart _ _ 15 5 15 5 12 3 rfl rfl (by omega) (by omega) (by omega), put_apart _ _ 7 5 7 5 12 3 rfl rfl (by omega) (by omega) (by omega), put_apart _ _ 20 12 20 12 12 3 rfl rfl (by omega) (by omega) (by omega), hs]; omega
theorem eq_I (x y : BitVec 32) (h0 : x.toNat / 2 ^ 0 % 2 ^ 7 = y.toNat / 2 ^ 0 % 2 ^ 7) (h1 : x.toNat / 2 ^ 7 % 2 ^ 5 = y.toNat / 2 ^ 7 % 2 ^ 5) (h2 : x.toNat / 2 ^ 12 % 2 ^ 3 = y.toNat / 2 ^ 12 % 2 ^ 3) (h3 : x.toNat / 2 ^ 15 % 2 ^ 5 = y.toNat / 2 ^ 15 % 2 ^ 5) (h4 : x.toNat / 2 ^ 20 % 2 ^ 12 = y.toNat / 2 ^ 20 % 2 ^ 12) : x = y := by
  have e := (join_top (A := 0) (N := 7) (join_top (A := 7) (N := 5) (join_top (A := 12) (N := 3) (join_top (A := 15) (N := 5) (join_top (A := 20) (N := 12) ((top32 x).trans (top32 y).symm) h4) h3) h2) h1) h0)
  apply BitVec.eq_of_toNat_eq; simpa using e
theorem fields_H (t c0 r1 r2 : BitVec 32) (o a b : Nat) (ho : o < 128) (hs : t.toNat = o + 4096 * a + 33554432 * b) (ha : a < 8) (_hb : b < 128) :
    (Wd.put (Wd.put (Wd.put t 20 5 c0) 7 5 r1) 15 5 r2).toNat / 2 ^ 20 % 2 ^ 5 = c0.toNat % 2 ^ 5 ∧ (Wd.put (Wd.put (Wd.put t 20 5 c0) 7 5 r1) 15 5 r2).toNat / 2 ^ 7 % 2 ^ 5 = r1.toNat % 2 ^ 5 ∧ (Wd.put (Wd.put (Wd.put t 20 5 c0) 7 5 r1) 15 5 r2).toNat / 2 ^ 15 % 2 ^ 5 = r2.toNat % 2 ^ 5 ∧ (Wd.put (Wd.put (Wd.put t 20 5 c0) 7 5 r1) 15 5 r2).toNat / 2 ^ 0 % 2 ^ 7 = o ∧ (Wd.put (Wd.put (Wd.put t 20 5 c0) 7 5 r1) 15 5 r2).toNat / 2 ^ 12 % 2 ^ 3 = a ∧ (Wd.put (Wd.put (Wd.put t 20 5 c0) 7 5 r1) 15 5 r2).toNat / 2 ^ 25 % 2 ^ 7 = b := by
  refine ⟨?_, ?_, ?_, ?_, ?_, ?_⟩
  · rw [put_apart _ _ 15 5 15 5 20 5 rfl rfl (by omega) (by omega) (by omega), put_apart _ _ 7 5 7 5 20 5 rfl rfl (by omega) (by omega) (by omega)]; exact (put_parts _ _ 20 5 20 5 rfl rfl (by omega) (by omega)).2.1
  · rw [put_apart _ _ 15 5 15 5 7 5 rfl rfl (by omega) (by omega) (by omega)]; exact (put_parts _ _ 7 5 7 5 rfl rfl (by omega) (by omega)).2.1
  · exact (put_parts _ _ 15 5 15 5 rfl rfl (by omega) (by omega)).2.1
  · rw [put_apart _ _ 15 5 15 5 0 7 rfl rfl (by omega) (by omega) (by omega), put_apart _ _ 7 5 7 5 0 7 rfl rfl (by omega) (by omega) (by omega), put_apart _ _ 20 5 20 5 0 7 rfl rfl (by omega) (by omega) (by omega), hs]; omega
  · rw [put_apart _ _ 15 5 15 5 12 3 rfl rfl (by omega) (by omega) (by omega), put_apart _ _ 7 5 7 5 12 3 rfl rfl (by omega) (by omega) (by omega), put_apart _ _ 20 5 20 5 12 3 rfl rfl (by omega) (by omega) (by omega), hs]; omega
  · rw [put_apart _ _ 15 5 15 5 25 7 rfl rfl (by omega) (by omega) (by omega), put_apart _ _ 7 5 7 5 25 7 rfl rfl (by omega) (by omega) (by omega), put_apart _ _ 20 5 20 5 25 7 rfl rfl (by omega) (by omega) (by omega), hs]; omega
theorem eq_H (x y : BitVec 32) (h0 : x.toNat / 2 ^ 0 % 2 ^ 7 = y.toNat / 2 ^ 0 % 2 ^ 7) (h1 : x.toNat / 2 ^ 7 % 2 ^ 5 = y.toNat / 2 ^ 7 % 2 ^ 5) (h2 : x.toNat / 2 ^ 12 % 2 ^ 3 = y.toNat / 2 ^ 12 % 2 ^ 3) (h3 : x.toNat / 2 ^ 15 % 2 ^ 5 = y.toNat / 2 ^ 15 % 2 ^ 5) (h4 : x.toNat / 2 ^ 20 % 2 ^ 5 = y.toNat / 2 ^ 20 % 2 ^ 5) (h5 : x.toNat / 2 ^ 25 % 2 ^ 7 = y.toNat / 2 ^ 25 % 2 ^ 7) : x = y := by
  have e := (join_top (A := 0) (N := 7) (join_top (A := 7) (N := 5) (join_top (A := 12) (N := 3) (join_top (A := 15) (N := 5) (join_top (A := 20) (N := 5) (join_top (A := 25) (N := 7) ((top32 x).trans (top32 y).symm) h5) h4) h3) h2) h1) h0)
  apply BitVec.eq_of_toNat_eq; simpa using e
theorem fields_B (t c0 c1 c2 c3 r2 r3 : BitVec 32) (o a : Nat) (ho : o < 128) (hs : t.toNat = o + 4096 * a) (ha : a < 8) :
    (Wd.put (Wd.put (Wd.put (Wd.put (Wd.put (Wd.put t 31 1 c0) 7 1 c1) 25 6 c2) 8 4 c3) 15 5 r2) 20 5 r3).toNat / 2 ^ 31 % 2 ^ 1 = c0.toNat % 2 ^ 1 ∧ (Wd.put (Wd.put (Wd.put (Wd.put (Wd.put (Wd.put t 31 1 c0) 7 1 c1) 25 6 c2) 8 4 c3) 15 5 r2) 20 5 r3).toNat / 2 ^ 7 % 2 ^ 1 = c1.toNat % 2 ^ 1 ∧ (Wd.put (Wd.put (Wd.put (Wd.put (Wd.put (Wd.put t 31 1 c0) 7 1 c1) 25 6 c2) 8 4 c3) 15 5 r2) 20 5 r3).toNat / 2 ^ 25 % 2 ^ 6 = c2.toNat % 2 ^ 6 ∧ (Wd.put (Wd.put (Wd.put (Wd.put (Wd.put (Wd.put t 31 1 c0) 7 1 c1) 25 6 c2) 8 4 c3) 15 5 r2) 20 5 r3).toNat / 2 ^ 8 % 2 ^ 4 = c3.toNat % 2 ^ 4 ∧ (Wd.put (Wd.put (Wd.put (Wd.put (Wd.put (Wd.put t 31 1 c0) 7 1 c1) 25 6 c2) 8 4 c3) 15 5 r2) 20 5 r3).toNat / 2 ^ 15 % 2 ^ 5 = r2.toNat % 2 ^ 5 ∧ (Wd.put (Wd.put (Wd.put (Wd.put (Wd.put (Wd.put t 31 1 c0) 7 1 c1) 25 6 c2) 8 4 c3) 15 5 r2) 20 5 r3).toNat / 2 ^ 20 % 2 ^ 5 = r3.toNat % 2 ^ 5 ∧ (Wd.put (Wd.put (Wd.put (Wd.put (Wd.put (Wd.put t 31 1 c0) 7 1 c1) 25 6 c2) 8 4 c3) 15 5 r2) 20 5 r3).toNat / 2 ^ 0 % 2 ^ 7 = o ∧ (Wd.put (Wd.put (Wd.put (Wd.put (Wd.put (Wd.put t 31 1 c0) 7 1 c1) 25 6 c2) 8 4 c3) 15 5 r2) 20 5 r3).toNat / 2 ^ 12 % 2 ^ 3 = a := by
  refine ⟨?_, ?_, ?_, ?_, ?_, ?_, ?_, ?_⟩
  · rw [put_apart _ _ 20 5 20 5 31 1 rfl rfl (by omega) (by omega) (by omega), put_apart _ _ 15 5 15 5 31 1 rfl rfl (by omega) (by omega) (by omega), put_apart _ _ 8 4 8 4 31 1 rfl rfl (by omega) (by omega) (by omega), put_apart _ _ 25 6 25 6 31 1 rfl rfl (by omega) (by omega) (by omega), put_apart _ _ 7 1 7 1 31 1 rfl rfl (by omega) (by omega) (by omega)]; exact (put_parts _ _ 31 1 31 1 rfl rfl (by omega) (by omega)).2.1
  · rw [put_apart _ _ 20 5 20 5 7 1 rfl rfl (by omega) (by omega) (by omega), put_apart _ _ 15 5 15 5 7 1 rfl rfl (by omega) (by omega) (by omega), put_apart _ _ 8 4 8 4 7 1 rfl rfl (by omega) (by omega) (by omega), put_apart _ _ 25 6 25 6 7 1 rfl rfl (by omega) (by omega) (by omega)]; exact (put_parts _ _ 7 1 7 1 rfl rfl (by omega) (by omega)).2.1
  · rw [put_apart _ _ 20 5 20 5 25 6 rfl rfl (by omega) (by omega) (by omega), put_apart _ _ 15 5 15 5 25 6 rfl rfl (by omega) (by omega) (by omega), put_apart _ _ 8 4 8 4 25 6 rfl rfl (by omega) (by omega) (by omega)]; exact (put_parts _ _ 25 6 25 6 rfl rfl (by omega) (by omega)).2.1
  · rw [put_apart _ _ 20 5 20 5 8 4 rfl rfl (by omega) (by omega) (by omega), put_apart _ _ 15 5 15 5 8 4 rfl rfl (by omega) (by omega) (by omega)]; exact (put_parts _ _ 8 4 8 4 rfl rfl (by omega) (by omega)).2.1
  · rw [put_apart _ _ 20 5 20 5 15 5 rfl rfl (by omega) (by omega) (by omega)]; exact (put_parts _ _ 15 5 15 5 rfl rfl (by omega) (by omega)).2.1
  · exact (put_parts _ _ 20 5 20 5 rfl rfl (by omega) (by omega)).2.1
  · rw [put_apart _ _ 20 5 20 5 0 7 rfl rfl (by omega) (by omega) (by omega), put_apart _ _ 15 5 15 5 0 7 rfl rfl (by omega) (by omega) (by omega), put_apart _ _ 8 4 8 4 0 7 rfl rfl (by omega) (by omega) (by omega), put_apart _ _ 25 6 25 6 0 7 rfl rfl (by omega) (by omega) (by omega), put_apart _ _ 7 1 7 1 0 7 rfl rfl (by omega) (by omega) (by omega), put_apart _ _ 31 1 31 1 0 7 rfl rfl (by omega) (by omega) (by omega), hs]; omega
  · rw [put_apart _ _ 20 5 20 5 12 3 rfl rfl (by omega) (by omega) (by omega), put_apart _ _ 15 5 15 5 12 3 rfl rfl (by omega) (by omega) (by omega), put_apart _ _ 8 4 8 4 12 3 rfl rfl (by omega) (by omega) (by omega), put_apart _ _ 25 6 25 6 12 3 rfl rfl (by omega) (by omega) (by omega), put_apart _ _ 7 1 7 1 12 3 rfl rfl (by omega) (by omega) (by omega), put_apart _ _ 31 1 31 1 12 3 rfl rfl (by omega) (by omega) (by omega), hs]; omega
theorem eq_B (x y : BitVec 32) (h0 : x.toNat / 2 ^ 0 % 2 ^ 7 = y.toNat / 2 ^ 0 % 2 ^ 7) (h1 : x.toNat / 2 ^ 7 % 2 ^ 1 = y.toNat / 2 ^ 7 % 2 ^ 1) (h2 : x.toNat / 2 ^ 8 % 2 ^ 4 = y.toNat / 2 ^ 8 % 2 ^ 4) (h3 : x.toNat / 2 ^ 12 % 2 ^ 3 = y.toNat / 2 ^ 12 % 2 ^ 3) (h4 : x.toNat / 2 ^ 15 % 2 ^ 5 = y.toNat / 2 ^ 15 % 2 ^ 5) (h5 : x.toNat / 2 ^ 20 % 2 ^ 5 = y.toNat / 2 ^ 20 % 2 ^ 5) (h6 : x.toNat / 2 ^ 25 % 2 ^ 6 = y.toNat / 2 ^ 25 % 2 ^ 6) (h7 : x.toNat / 2 ^ 31 % 2 ^ 1 = y.toNat / 2 ^ 31 % 2 ^ 1) : x = y := by
  have e := (join_top (A := 0) (N := 7) (join_top (A := 7) (N := 1) (join_top (A := 8) (N := 4) (join_top (A := 12) (N := 3) (join_top (A := 15) (N := 5) (join_top (A := 20) (N := 5) (join_top (A := 25) (N := 6) (join_top (A := 31) (N := 1) ((top32 x).trans (top32 y).symm) h7) h6) h5) h4) h3) h2) h1) h0)
  apply BitVec.eq_of_toNat_eq; simpa using e
theorem fields_S (t c0 c1 r2 r3 : BitVec 32) (o a : Nat) (ho : o < 128) (hs : t.toNat = o + 4096 * a) (ha : a < 8) :
    (Wd.put (Wd.put (Wd.put (Wd.put t 7 5 c0) 25 7 c1) 15 5 r2) 20 5 r3).toNat / 2 ^ 7 % 2 ^ 5 = c0.toNat % 2 ^ 5 ∧ (Wd.put (Wd.put (Wd.put (Wd.put t 7 5 c0) 25 7 c1) 15 5 r2) 20 5 r3).toNat / 2 ^ 25 % 2 ^ 7 = c1.toNat % 2 ^ 7 ∧ (Wd.put (Wd.put (Wd.put (Wd.put t 7 5 c0) 25 7 c1) 15 5 r2) 20 5 r3).toNat / 2 ^ 15 % 2 ^ 5 = r2.toNat % 2 ^ 5 ∧ (Wd.put (Wd.put (Wd.put (Wd.put t 7 5 c0) 25 7 c1) 15 5 r2) 20 5 r3).toNat / 2 ^ 20 % 2 ^ 5 = r3.toNat % 2 ^ 5 ∧ (Wd.put (Wd.put (Wd.put (Wd.put t 7 5 c0) 25 7 c1) 15 5 r2) 20 5 r3).toNat / 2 ^ 0 % 2 ^ 7 = o ∧ (Wd.put (Wd.put (Wd.put (Wd.put t 7 5 c0) 25 7 c1) 15 5 r2) 20 5 r3).toNat / 2 ^ 12 % 2 ^ 3 = a := by
  refine ⟨?_, ?_, ?_, ?_, ?_, ?_⟩
  · rw [put_apart _ _ 20 5 20 5 7 5 rfl rfl (by omega) (by omega) (by omega), put_apart _ _ 15 5 15 5 7 5 rfl rfl (by omega) (by omega) (by omega), put_apart _ _ 25 7 25 7 7 5 rfl rfl (by omega) (by omega) (by omega)]; exact (put_parts _ _ 7 5 7 5 rfl rfl (by omega) (by omega)).2.1
  · rw [put_apart _ _ 20 5 20 5 25 7 rfl rfl (by omega) (by omega) (by omega), put_apart _ _ 15 5 15 5 25 7 rfl rfl (by omega) (by omega) (by omega)]; exact (put_parts _ _ 25 7 25 7 rfl rfl (by omega) (by omega)).2.1
  · rw [put_apart _ _ 20 5 20 5 15 5 rfl rfl (by omega) (by omega) (by omega)]; exact (put_parts _ _ 15 5 15 5 rfl rfl (by omega) (by omega)).2.1
  · exact (put_parts _ _ 20 5 20 5 rfl rfl (by omega) (by omega)).2.1
  · rw [put_apart _ _ 20 5 20 5 0 7 rfl rfl (by omega) (by omega) (by omega), put_apart _ _ 15 5 15 5 0 7 rfl rfl (by omega) (by omega) (by omega), put_apart _ _ 25 7 25 7 0 7 rfl rfl (by omega) (by omega) (by omega), put_apart _ _ 7 5 7 5 0 7 rfl rfl (by omega) (by omega) (by omega), hs]; omega
  · rw [put_apart _ _ 20 5 20 5 12 3 rfl rfl (by omega) (by omega) (by omega), put_apart _ _ 15 5 15 5 12 3 rfl rfl (by omega) (by omega) (by omega), put_apart _ _ 25 7 25 7 12 3 rfl rfl (by omega) (by omega) (by omega), put_apart _ _ 7 5 7 5 12 3 rfl rfl (by omega) (by omega) (by omega), hs]; omega
theorem eq_S (x y : BitVec 32) (h0 : x.toNat / 2 ^ 0 % 2 ^ 7 = y.toNat / 2 ^ 0 % 2 ^ 7) (h1 : x.toNat / 2 ^ 7 % 2 ^ 5 = y.toNat / 2 ^ 7 % 2 ^ 5) (h2 : x.toNat / 2 ^ 12 % 2 ^ 3 = y.toNat / 2 ^ 12 % 2 ^ 3) (h3 : x.toNat / 2 ^ 15 % 2 ^ 5 = y.toNat / 2 ^ 15 % 2 ^ 5) (h4 : x.toNat / 2 ^ 20 % 2 ^ 5 = y.toNat / 2 ^ 20 % 2 ^ 5) (h5 : x.toNat / 2 ^ 25 % 2 ^ 7 = y.toNat / 2 ^ 25 % 2 ^ 7) : x = y := by
  have e := (join_top (A := 0) (N := 7) (join_top (A := 7) (N := 5) (join_top (A := 12) (N := 3) (join_top (A := 15) (N := 5) (join_top (A := 20) (N := 5) (join_top (A := 25) (N := 7) ((top32 x).trans (top32 y).symm) h5) h4) h3) h2) h1) h0)
  apply BitVec.eq_of_toNat_eq; simpa using e
theorem fields_R (t r1 r2 r3 : BitVec 32) (o a b : Nat) (ho : o < 128) (hs : t.toNat = o + 4096 * a + 33554432 * b) (ha : a < 8) (_hb : b < 128) :
    (Wd.put (Wd.put (Wd.put t 7 5 r1) 15 5 r2) 20 5 r3).toNat / 2 ^ 7 % 2 ^ 5 = r1.toNat % 2 ^ 5 ∧ (Wd.put (Wd.put (Wd.put t 7 5 r1) 15 5 r2) 20 5 r3).toNat / 2 ^ 15 % 2 ^ 5 = r2.toNat % 2 ^ 5 ∧ (Wd.put (Wd.put (Wd.put t 7 5 r1) 15 5 r2) 20 5 r3).toNat / 2 ^ 20 % 2 ^ 5 = r3.toNat % 2 ^ 5 ∧ (Wd.put (Wd.put (Wd.put t 7 5 r1) 15 5 r2) 20 5 r3).toNat / 2 ^ 0 % 2 ^ 7 = o ∧ (Wd.put (Wd.put (Wd.put t 7 5 r1) 15 5 r2) 20 5 r3).toNat / 2 ^ 12 % 2 ^ 3 = a ∧ (Wd.put (Wd.put (Wd.put t 7 5 r1) 15 5 r2) 20 5 r3).toNat / 2 ^ 25 % 2 ^ 7 = b := by
  refine ⟨?_, ?_, ?_, ?_, ?_, ?_⟩
  · rw [put_apart _ _ 20 5 20 5 7 5 rfl rfl (by omega) (by omega) (by omega), put_apart _ _ 15 5 15 5 7 5 rfl rfl (by omega) (by omega) (by omega)]; exact (put_parts _ _ 7 5 7 5 rfl rfl (by omega) (by omega)).2.1
  · rw [put_apart _ _ 20 5 20 5 15 5 rfl rfl (by omega) (by omega) (by omega)]; exact (put_parts _ _ 15 5 15 5 rfl rfl (by omega) (by omega)).2.1
  · exact (put_parts _ _ 20 5 20 5 rfl rfl (by omega) (by omega)).2.1
  · rw [put_apart _ _ 20 5 20 5 0 7 rfl rfl (by omega) (by omega) (by omega), put_apart _ _ 15 5 15 5 0 7 rfl rfl (by omega) (by omega) (by omega), put_apart _ _ 7 5 7 5 0 7 rfl rfl (by omega) (by omega) (by omega), hs]; omega
  · rw [put_apart _ _ 20 5 20 5 12 3 rfl rfl (by omega) (by omega) (by omega), put_apart _ _ 15 5 15 5 12 3 rfl rfl (by omega) (by omega) (by omega), put_apart _ _ 7 5 7 5 12 3 rfl rfl (by omega) (by omega) (by omega), hs]; omega
  · rw [put_apart _ _ 20 5 20 5 25 7 rfl rfl (by omega) (by omega) (by omega), put_apart _ _ 15 5 15 5 25 7 rfl rfl (by omega) (by omega) (by omega), put_apart _ _ 7 5 7 5 25 7 rfl rfl (by omega) (by omega) (by omega), hs]; omega
theorem eq_R (x y : BitVec 32) (h0 : x.toNat / 2 ^ 0 % 2 ^ 7 = y.toNat / 2 ^ 0 % 2 ^ 7) (h1 : x.toNat / 2 ^ 7 % 2 ^ 5 = y.toNat / 2 ^ 7 % 2 ^ 5) (h2 : x.toNat / 2 ^ 12 % 2 ^ 3 = y.toNat / 2 ^ 12 % 2 ^ 3) (h3 : x.toNat / 2 ^ 15 % 2 ^ 5 = y.toNat / 2 ^ 15 % 2 ^ 5) (h4 : x.toNat / 2 ^ 20 % 2 ^ 5 = y.toNat / 2 ^ 20 % 2 ^ 5) (h5 : x.toNat / 2 ^ 25 % 2 ^ 7 = y.toNat / 2 ^ 25 % 2 ^ 7) : x = y := by
  have e := (join_top (A := 0) (N := 7) (join_top (A := 7) (N := 5) (join_top (A := 12) (N := 3) (join_top (A := 15) (N := 5) (join_top (A := 20) (N := 5) (join_top (A := 25) (N := 7) ((top32 x).trans (top32 y).symm) h5) h4) h3) h2) h1) h0)
  apply BitVec.eq_of_toNat_eq; simpa using e
end Ip
end Go.Proofs.Ythlefedljgmmfaa
namespace Go.Proofs.Ythlefedljgmmfaa
open Go.RowKit
namespace Ip

theorem toInt_small (v : BitVec 32) (h : v.toNat < 2147483648) : v.toInt = v.toNat := by
  rw [BitVec.toInt_eq_toNat_cond, if_pos (by omega)]
theorem sign_none (v : BitVec 32) : Wd.sign v 0 = v := by unfold Wd.sign; rw [if_neg (by omega)]
theorem num_none (x : BitVec 32) (f : Nat) (h : f = 82 ∨ f = 69) : number x f = 0 := by
  rcases h with rfl | rfl
  · unfold number
    have e : numV x 82 4 = Wd.put (Wd.put (Wd.put (Wd.put (BitVec.ofNat 32 0) 0 0 (Wd.field x 0 0)) 0 0 (Wd.field x 0 0)) 0 0 (Wd.field x 0 0)) 0 0 (Wd.field x 0 0) := rfl
    rw [e, put_none, put_none, put_none, put_none]
    show (Wd.sign _ 0).toInt = 0
    rw [sign_none]; rfl
  · unfold number
    have e : numV x 69 4 = Wd.put (Wd.put (Wd.put (Wd.put (BitVec.ofNat 32 0) 0 0 (Wd.field x 0 0)) 0 0 (Wd.field x 0 0)) 0 0 (Wd.field x 0 0)) 0 0 (Wd.field x 0 0) := rfl
    rw [e, put_none, put_none, put_none, put_none]
    show (Wd.sign _ 0).toInt = 0
    rw [sign_none]; rfl
theorem num_U (x : BitVec 32) : (numV x 85 4).toNat = 2 ^ 0 * (x.toNat / 2 ^ 12 % 2 ^ 20) := by
  have e : numV x 85 4 = (Wd.put (Wd.put (Wd.put (Wd.put (BitVec.ofNat 32 0) 0 20 (Wd.field x 12 20)) 0 0 (Wd.field x 0 0)) 0 0 (Wd.field x 0 0)) 0 0 (Wd.field x 0 0)) := rfl
  rw [e, put_none, put_none, put_none]
  have p0 := put_add (BitVec.ofNat 32 0) (Wd.field x 12 20) 0 20 0 20 rfl rfl (by omega) (by omega) (by show 0 / _ % _ = 0; rw [Nat.zero_div, Nat.zero_mod])
  have f0 := field_nat x 12 20 12 20 rfl rfl (by omega) (by omega)
  rw [p0, f0, Nat.mod_mod]
  show 0 + _ = _
  omega
def val_U (d0 : Nat) : Int := ((2 ^ 0 * d0 : Nat) : Int)
theorem number_U (x : BitVec 32) : number x 85 = val_U (x.toNat / 2 ^ 12 % 2 ^ 20) := by
  have e := num_U x
  have l0 : x.toNat / 2 ^ 12 % 2 ^ 20 < 2 ^ 20 := Nat.mod_lt _ (by decide)
  generalize x.toNat / 2 ^ 12 % 2 ^ 20 = d0 at *
  unfold number val_U
  show (Wd.sign _ 0).toInt = _
  rw [sign_none, toInt_small _ (by rw [e]; omega), e]
theorem digits_U (d0 : Nat) (l0 : d0 < 2 ^ 20) : (0) ≤ val_U d0 ∧ val_U d0 ≤ 1048575 ∧ val_U d0 % 1 = 0 ∧ (BitVec.ofInt 32 (val_U d0)).toNat / 2 ^ 0 % 2 ^ 20 = d0 := by
  have hU := ofInt_nat (val_U d0)
  generalize (BitVec.ofInt 32 (val_U d0)).toNat = U at *
  unfold val_U at *
  refine ⟨?_, ?_, ?_, ?_⟩
  all_goals omega
theorem back_U (n : Int) (h0 : (0) ≤ n) (h1 : n ≤ 1048575) (h2 : n % 1 = 0) : val_U ((BitVec.ofInt 32 n).toNat / 2 ^ 0 % 2 ^ 20) = n := by
  have hU := ofInt_nat n
  generalize (BitVec.ofInt 32 n).toNat = U at *
  unfold val_U
  omega
theorem num_J (x : BitVec 32) : (numV x 74 4).toNat = 2 ^ 20 * (x.toNat / 2 ^ 31 % 2 ^ 1) + 2 ^ 12 * (x.toNat / 2 ^ 12 % 2 ^ 8) + 2 ^ 11 * (x.toNat / 2 ^ 20 % 2 ^ 1) + 2 ^ 1 * (x.toNat / 2 ^ 21 % 2 ^ 10) := by
  have e : numV x 74 4 = (Wd.put (Wd.put (Wd.put (Wd.put (BitVec.ofNat 32 0) 20 1 (Wd.field x 31 1)) 12 8 (Wd.field x 12 8)) 11 1 (Wd.field x 20 1)) 1 10 (Wd.field x 21 10)) := rfl
  rw [e]
  have p0 := put_add (BitVec.ofNat 32 0) (Wd.field x 31 1) 20 1 20 1 rfl rfl (by omega) (by omega) (by show 0 / _ % _ = 0; rw [Nat.zero_div, Nat.zero_mod])
  have f0 := field_nat x 31 1 31 1 rfl rfl (by omega) (by omega)
  have p1 := put_add (Wd.put (BitVec.ofNat 32 0) 20 1 (Wd.field x 31 1)) (Wd.field x 12 8) 12 8 12 8 rfl rfl (by omega) (by omega) (by rw [put_apart _ _ 20 1 20 1 12 8 rfl rfl (by omega) (by omega) (by omega)]; show 0 / _ % _ = 0; rw [Nat.zero_div, Nat.zero_mod])
  have f1 := field_nat x 12 8 12 8 rfl rfl (by omega) (by omega)
  have p2 := put_add (Wd.put (Wd.put (BitVec.ofNat 32 0) 20 1 (Wd.field x 31 1)) 12 8 (Wd.field x 12 8)) (Wd.field x 20 1) 11 1 11 1 rfl rfl (by omega) (by omega) (by rw [put_apart _ _ 12 8 12 8 11 1 rfl rfl (by omega) (by omega) (by omega), put_apart _ _ 20 1 20 1 11 1 rfl rfl (by omega) (by omega) (by omega)]; show 0 / _ % _ = 0; rw [Nat.zero_div, Nat.zero_mod])
  have f2 := field_nat x 20 1 20 1 rfl rfl (by omega) (by omega)
  have p3 := put_add (Wd.put (Wd.put (Wd.put (BitVec.ofNat 32 0) 20 1 (Wd.field x 31 1)) 12 8 (Wd.field x 12 8)) 11 1 (Wd.field x 20 1)) (Wd.field x 21 10) 1 10 1 10 rfl rfl (by omega) (by omega) (by rw [put_apart _ _ 11 1 11 1 1 10 rfl rfl (by omega) (by omega) (by omega), put_apart _ _ 12 8 12 8 1 10 rfl rfl (by omega) (by omega) (by omega), put_apart _ _ 20 1 20 1 1 10 rfl rfl (by omega) (by omega) (by omega)]; show 0 / _ % _ = 0; rw [Nat.zero_div, Nat.zero_mod])
  have f3 := field_nat x 21 10 21 10 rfl rfl (by omega) (by omega)
  rw [p3, p2, p1, p0, f0, f1, f2, f3, Nat.mod_mod, Nat.mod_mod, Nat.mod_mod, Nat.mod_mod]
  show 0 + _ + _ + _ + _ = _
  omega
def val_J (d0 d1 d2 d3 : Nat) : Int := (if 2 ^ 20 * d0 + 2 ^ 12 * d1 + 2 ^ 11 * d2 + 2 ^ 1 * d3 < 2 ^ 20 then ((2 ^ 20 * d0 + 2 ^ 12 * d1 + 2 ^ 11 * d2 + 2 ^ 1 * d3 : Nat) : Int) else ((2 ^ 20 * d0 + 2 ^ 12 * d1 + 2 ^ 11 * d2 + 2 ^ 1 * d3 : Nat) : Int) - 2 ^ 21)
theorem number_J (x : BitVec 32) : number x 74 = val_J (x.toNat / 2 ^ 31 % 2 ^ 1) (x.toNat / 2 ^ 12 % 2 ^ 8) (x.toNat / 2 ^ 20 % 2 ^ 1) (x.toNat / 2 ^ 21 % 2 ^ 10) := by
  have e := num_J x
  have l0 : x.toNat / 2 ^ 31 % 2 ^ 1 < 2 ^ 1 := Nat.mod_lt _ (by decide)
  have l1 : x.toNat / 2 ^ 12 % 2 ^ 8 < 2 ^ 8 := Nat.mod_lt _ (by decide)
  have l2 : x.toNat / 2 ^ 20 % 2 ^ 1 < 2 ^ 1 := Nat.mod_lt _ (by decide)
  have l3 : x.toNat / 2 ^ 21 % 2 ^ 10 < 2 ^ 10 := Nat.mod_lt _ (by decide)
  generalize x.toNat / 2 ^ 31 % 2 ^ 1 = d0 at *
  generalize x.toNat / 2 ^ 12 % 2 ^ 8 = d1 at *
  generalize x.toNat / 2 ^ 20 % 2 ^ 1 = d2 at *
  generalize x.toNat / 2 ^ 21 % 2 ^ 10 = d3 at *
  unfold number val_J
  show (Wd.sign _ 21).toInt = _
  rw [sign_int _ 21 21 rfl (by omega) (by omega) (by rw [e]; omega), e]
theorem digits_J (d0 d1 d2 d3 : Nat) (l0 : d0 < 2 ^ 1) (l1 : d1 < 2 ^ 8) (l2 : d2 < 2 ^ 1) (l3 : d3 < 2 ^ 10) : (-1048576) ≤ val_J d0 d1 d2 d3 ∧ val_J d0 d1 d2 d3 ≤ 1048574 ∧ val_J d0 d1 d2 d3 % 2 = 0 ∧ (BitVec.ofInt 32 (val_J d0 d1 d2 d3)).toNat / 2 ^ 20 % 2 ^ 1 = d0 ∧ (BitVec.ofInt 32 (val_J d0 d1 d2 d3)).toNat / 2 ^ 12 % 2 ^ 8 = d1 ∧ (BitVec.ofInt 32 (val_J d0 d1 d2 d3)).toNat / 2 ^ 11 % 2 ^ 1 = d2 ∧ (BitVec.ofInt 32 (val_J d0 d1 d2 d3)).toNat / 2 ^ 1 % 2 ^ 10 = d3 := by
  have hU := ofInt_nat (val_J d0 d1 d2 d3)
  generalize (BitVec.ofInt 32 (val_J d0 d1 d2 d3)).toNat = U at *
  unfold val_J at *
  split at hU
  all_goals refine ⟨?_, ?_, ?_, ?_, ?_, ?_, ?_⟩
  all_goals (try split) <;> omega
theorem back_J (n : Int) (h0 : (-1048576) ≤ n) (h1 : n ≤ 1048574) (h2 : n % 2 = 0) : val_J ((BitVec.ofInt 32 n).toNat / 2 ^ 20 % 2 ^ 1) ((BitVec.ofInt 32 n).toNat / 2 ^ 12 % 2 ^ 8) ((BitVec.ofInt 32 n).toNat / 2 ^ 11 % 2 ^ 1) ((BitVec.ofInt 32 n).toNat / 2 ^ 1 % 2 ^ 10) = n := by
  have hU := ofInt_nat n
  generalize (BitVec.ofInt 32 n).toNat = U at *
  unfold val_J
  split <;> omega
theorem num_I (x : BitVec 32) : (numV x 73 4).toNat = 2 ^ 0 * (x.toNat / 2 ^ 20 % 2 ^ 12) := by
  have e : numV x 73 4 = (Wd.put (Wd.put (Wd.put (Wd.put (BitVec.ofNat 32 0) 0 12 (Wd.field x 20 12)) 0 0 (Wd.field x 0 0)) 0 0 (Wd.field x 0 0)) 0 0 (Wd.field x 0 0)) := rfl
  rw [e, put_none, put_none, put_none]
  have p0 := put_add (BitVec.ofNat 32 0) (Wd.field x 20 12) 0 12 0 12 rfl rfl (by omega) (by omega) (by show 0 / _ % _ = 0; rw [Nat.zero_div, Nat.zero_mod])
  have f0 := field_nat x 20 12 20 12 rfl rfl (by omega) (by omega)
  rw [p0, f0, Nat.mod_mod]
  show 0 + _ = _
  omega
def val_I (d0 : Nat) : Int := (if 2 ^ 0 * d0 < 2 ^ 11 then ((2 ^ 0 * d0 : Nat) : Int) else ((2 ^ 0 * d0 : Nat) : Int) - 2 ^ 12)
theorem number_I (x : BitVec 32) : number x 73 = val_I (x.toNat / 2 ^ 20 % 2 ^ 12) := by
  have e := num_I x
  have l0 : x.toNat / 2 ^ 20 % 2 ^ 12 < 2 ^ 12 := Nat.mod_lt _ (by decide)
  generalize x.toNat / 2 ^ 20 % 2 ^ 12 = d0 at *
  unfold number val_I
  show (Wd.sign _ 12).toInt = _
  rw [sign_int _ 12 12 rfl (by omega) (by omega) (by rw [e]; omega), e]
theorem digits_I (d0 : Nat) (l0 : d0 < 2 ^ 12) : (-2048) ≤ val_I d0 ∧ val_I d0 ≤ 2047 ∧ val_I d0 % 1 = 0 ∧ (BitVec.ofInt 32 (val_I d0)).toNat / 2 ^ 0 % 2 ^ 12 = d0 := by
  have hU := ofInt_nat (val_I d0)
  generalize (BitVec.ofInt 32 (val_I d0)).toNat = U at *
  unfold val_I at *
  split at hU
  all_goals refine ⟨?_, ?_, ?_, ?_⟩
  all_goals (try split) <;> omega
theorem back_I (n : Int) (h0 : (-2048) ≤ n) (h1 : n ≤ 2047) (h2 : n % 1 = 0) : val_I ((BitVec.ofInt 32 n).toNat / 2 ^ 0 % 2 ^ 12) = n := by
  have hU := ofInt_nat n
  generalize (BitVec.ofInt 32 n).toNat = U at *
  unfold val_I
  split <;> omega
theorem num_H (x : BitVec 32) : (numV x 72 4).toNat = 2 ^ 0 * (x.toNat / 2 ^ 20 % 2 ^ 5) := by
  have e : numV x 72 4 = (Wd.put (Wd.put (Wd.put (Wd.put (BitVec.ofNat 32 0) 0 5 (Wd.field x 20 5)) 0 0 (Wd.field x 0 0)) 0 0 (Wd.field x 0 0)) 0 0 (Wd.field x 0 0)) := rfl
  rw [e, put_none, put_none, put_none]
  have p0 := put_add (BitVec.ofNat 32 0) (Wd.field x 20 5) 0 5 0 5 rfl rfl (by omega) (by omega) (by show 0 / _ % _ = 0; rw [Nat.zero_div, Nat.zero_mod])
  have f0 := field_nat x 20 5 20 5 rfl rfl (by omega) (by omega)
  rw [p0, f0, Nat.mod_mod]
  show 0 + _ = _
  omega
def val_H (d0 : Nat) : Int := ((2 ^ 0 * d0 : Nat) : Int)
theorem number_H (x : BitVec 32) : number x 72 = val_H (x.toNat / 2 ^ 20 % 2 ^ 5) := by
  have e := num_H x
  have l0 : x.toNat / 2 ^ 20 % 2 ^ 5 < 2 ^ 5 := Nat.mod_lt _ (by decide)
  generalize x.toNat / 2 ^ 20 % 2 ^ 5 = d0 at *
  unfold number val_H
  show (Wd.sign _ 0).toInt = _
  rw [sign_none, toInt_small _ (by rw [e]; omega), e]
theorem digits_H (d0 : Nat) (l0 : d0 < 2 ^ 5) : (0) ≤ val_H d0 ∧ val_H d0 ≤ 31 ∧ val_H d0 % 1 = 0 ∧ (BitVec.ofInt 32 (val_H d0)).toNat / 2 ^ 0 % 2 ^ 5 = d0 := by
  have hU := ofInt_nat (val_H d0)
  generalize (BitVec.ofInt 32 (val_H d0)).toNat = U at *
  unfold val_H at *
  refine ⟨?_, ?_, ?_, ?_⟩
  all_goals omega
theorem back_H (n : Int) (h0 : (0) ≤ n) (h1 : n ≤ 31) (h2 : n % 1 = 0) : val_H ((BitVec.ofInt 32 n).toNat / 2 ^ 0 % 2 ^ 5) = n := by
  have hU := ofInt_nat n
  generalize (BitVec.ofInt 32 n).toNat = U at *
  unfold val_H
  omega
theorem num_B (x : BitVec 32) : (numV x 66 4).toNat = 2 ^ 12 * (x.toNat / 2 ^ 31 % 2 ^ 1) + 2 ^ 11 * (x.toNat / 2 ^ 7 % 2 ^ 1) + 2 ^ 5 * (x.toNat / 2 ^ 25 % 2 ^ 6) + 2 ^ 1 * (x.toNat / 2 ^ 8 % 2 ^ 4) := by
  have e : numV x 66 4 = (Wd.put (Wd.put (Wd.put (Wd.put (BitVec.ofNat 32 0) 12 1 (Wd.field x 31 1)) 11 1 (Wd.field x 7 1)) 5 6 (Wd.field x 25 6)) 1 4 (Wd.field x 8 4)) := rfl
  rw [e]
  have p0 := put_add (BitVec.ofNat 32 0) (Wd.field x 31 1) 12 1 12 1 rfl rfl (by omega) (by omega) (by show 0 / _ % _ = 0; rw [Nat.zero_div, Nat.zero_mod])
  have f0 := field_nat x 31 1 31 1 rfl rfl (by omega) (by omega)
  have p1 := put_add (Wd.put (BitVec.ofNat 32 0) 12 1 (Wd.field x 31 1)) (Wd.field x 7 1) 11 1 11 1 rfl rfl (by omega) (by omega) (by rw [put_apart _ _ 12 1 12 1 11 1 rfl rfl (by omega) (by omega) (by omega)]; show 0 / _ % _ = 0; rw [Nat.zero_div, Nat.zero_mod])
  have f1 := field_nat x 7 1 7 1 rfl rfl (by omega) (by omega)
  have p2 := put_add (Wd.put (Wd.put (BitVec.ofNat 32 0) 12 1 (Wd.field x 31 1)) 11 1 (Wd.field x 7 1)) (Wd.field x 25 6) 5 6 5 6 rfl rfl (by omega) (by omega) (by rw [put_apart _ _ 11 1 11 1 5 6 rfl rfl (by omega) (by omega) (by omega), put_apart _ _ 12 1 12 1 5 6 rfl rfl (by omega) (by omega) (by omega)]; show 0 / _ % _ = 0; rw [Nat.zero_div, Nat.zero_mod])
  have f2 := field_nat x 25 6 25 6 rfl rfl (by omega) (by omega)
  have p3 := put_add (Wd.put (Wd.put (Wd.put (BitVec.ofNat 32 0) 12 1 (Wd.field x 31 1)) 11 1 (Wd.field x 7 1)) 5 6 (Wd.field x 25 6)) (Wd.field x 8 4) 1 4 1 4 rfl rfl (by omega) (by omega) (by rw [put_apart _ _ 5 6 5 6 1 4 rfl rfl (by omega) (by omega) (by omega), put_apart _ _ 11 1 11 1 1 4 rfl rfl (by omega) (by omega) (by omega), put_apart _ _ 12 1 12 1 1 4 rfl rfl (by omega) (by omega) (by omega)]; show 0 / _ % _ = 0; rw [Nat.zero_div, Nat.zero_mod])
  have f3 := field_nat x 8 4 8 4 rfl rfl (by omega) (by omega)
  rw [p3, p2, p1, p0, f0, f1, f2, f3, Nat.mod_mod, Nat.mod_mod, Nat.mod_mod, Nat.mod_mod]
  show 0 + _ + _ + _ + _ = _
  omega
def val_B (d0 d1 d2 d3 : Nat) : Int := (if 2 ^ 12 * d0 + 2 ^ 11 * d1 + 2 ^ 5 * d2 + 2 ^ 1 * d3 < 2 ^ 12 then ((2 ^ 12 * d0 + 2 ^ 11 * d1 + 2 ^ 5 * d2 + 2 ^ 1 * d3 : Nat) : Int) else ((2 ^ 12 * d0 + 2 ^ 11 * d1 + 2 ^ 5 * d2 + 2 ^ 1 * d3 : Nat) : Int) - 2 ^ 13)
theorem number_B (x : BitVec 32) : number x 66 = val_B (x.toNat / 2 ^ 31 % 2 ^ 1) (x.toNat / 2 ^ 7 % 2 ^ 1) (x.toNat / 2 ^ 25 % 2 ^ 6) (x.toNat / 2 ^ 8 % 2 ^ 4) := by
  have e := num_B x
  have l0 : x.toNat / 2 ^ 31 % 2 ^ 1 < 2 ^ 1 := Nat.mod_lt _ (by decide)
  have l1 : x.toNat / 2 ^ 7 % 2 ^ 1 < 2 ^ 1 := Nat.mod_lt _ (by decide)
  have l2 : x.toNat / 2 ^ 25 % 2 ^ 6 < 2 ^ 6 := Nat.mod_lt _ (by decide)
  have l3 : x.toNat / 2 ^ 8 % 2 ^ 4 < 2 ^ 4 := Nat.mod_lt _ (by decide)
  generalize x.toNat / 2 ^ 31 % 2 ^ 1 = d0 at *
  generalize x.toNat / 2 ^ 7 % 2 ^ 1 = d1 at *
  generalize x.toNat / 2 ^ 25 % 2 ^ 6 = d2 at *
  generalize x.toNat / 2 ^ 8 % 2 ^ 4 = d3 at *
  unfold number val_B
  show (Wd.sign _ 13).toInt = _
  rw [sign_int _ 13 13 rfl (by omega) (by omega) (by rw [e]; omega), e]
theorem digits_B (d0 d1 d2 d3 : Nat) (l0 : d0 < 2 ^ 1) (l1 : d1 < 2 ^ 1) (l2 : d2 < 2 ^ 6) (l3 : d3 < 2 ^ 4) : (-4096) ≤ val_B d0 d1 d2 d3 ∧ val_B d0 d1 d2 d3 ≤ 4094 ∧ val_B d0 d1 d2 d3 % 2 = 0 ∧ (BitVec.ofInt 32 (val_B d0 d1 d2 d3)).toNat / 2 ^ 12 % 2 ^ 1 = d0 ∧ (BitVec.ofInt 32 (val_B d0 d1 d2 d3)).toNat / 2 ^ 11 % 2 ^ 1 = d1 ∧ (BitVec.ofInt 32 (val_B d0 d1 d2 d3)).toNat / 2 ^ 5 % 2 ^ 6 = d2 ∧ (BitVec.ofInt 32 (val_B d0 d1 d2 d3)).toNat / 2 ^ 1 % 2 ^ 4 = d3 := by
  have hU := ofInt_nat (val_B d0 d1 d2 d3)
  generalize (BitVec.ofInt 32 (val_B d0 d1 d2 d3)).toNat = U at *
  unfold val_B at *
  split at hU
  all_goals refine ⟨?_, ?_, ?_, ?_, ?_, ?_, ?_⟩
  all_goals (try split) <;> omega
theorem back_B (n : Int) (h0 : (-4096) ≤ n) (h1 : n ≤ 4094) (h2 : n % 2 = 0) : val_B ((BitVec.ofInt 32 n).toNat / 2 ^ 12 % 2 ^ 1) ((BitVec.ofInt 32 n).toNat / 2 ^ 11 % 2 ^ 1) ((BitVec.ofInt 32 n).toNat / 2 ^ 5 % 2 ^ 6) ((BitVec.ofInt 32 n).toNat / 2 ^ 1 % 2 ^ 4) = n := by
  have hU := ofInt_nat n
  generalize (BitVec.ofInt 32 n).toNat = U at *
  unfold val_B
  split <;> omega
theorem num_S (x : BitVec 32) : (numV x 83 4).toNat = 2 ^ 0 * (x.toNat / 2 ^ 7 % 2 ^ 5) + 2 ^ 5 * (x.toNat / 2 ^ 25 % 2 ^ 7) := by
  have e : numV x 83 4 = (Wd.put (Wd.put (Wd.put (Wd.put (BitVec.ofNat 32 0) 0 5 (Wd.field x 7 5)) 5 7 (Wd.field x 25 7)) 0 0 (Wd.field x 0 0)) 0 0 (Wd.field x 0 0)) := rfl
  rw [e, put_none, put_none]
  have p0 := put_add (BitVec.ofNat 32 0) (Wd.field x 7 5) 0 5 0 5 rfl rfl (by omega) (by omega) (by show 0 / _ % _ = 0; rw [Nat.zero_div, Nat.zero_mod])
  have f0 := field_nat x 7 5 7 5 rfl rfl (by omega) (by omega)
  have p1 := put_add (Wd.put (BitVec.ofNat 32 0) 0 5 (Wd.field x 7 5)) (Wd.field x 25 7) 5 7 5 7 rfl rfl (by omega) (by omega) (by rw [put_apart _ _ 0 5 0 5 5 7 rfl rfl (by omega) (by omega) (by omega)]; show 0 / _ % _ = 0; rw [Nat.zero_div, Nat.zero_mod])
  have f1 := field_nat x 25 7 25 7 rfl rfl (by omega) (by omega)
  rw [p1, p0, f0, f1, Nat.mod_mod, Nat.mod_mod]
  show 0 + _ + _ = _
  omega
def val_S (d0 d1 : Nat) : Int := (if 2 ^ 0 * d0 + 2 ^ 5 * d1 < 2 ^ 11 then ((2 ^ 0 * d0 + 2 ^ 5 * d1 : Nat) : Int) else ((2 ^ 0 * d0 + 2 ^ 5 * d1 : Nat) : Int) - 2 ^ 12)
theorem number_S (x : BitVec 32) : number x 83 = val_S (x.toNat / 2 ^ 7 % 2 ^ 5) (x.toNat / 2 ^ 25 % 2 ^ 7) := by
  have e := num_S x
  have l0 : x.toNat / 2 ^ 7 % 2 ^ 5 < 2 ^ 5 := Nat.mod_lt _ (by decide)
  have l1 : x.toNat / 2 ^ 25 % 2 ^ 7 < 2 ^ 7 := Nat.mod_lt _ (by decide)
  generalize x.toNat / 2 ^ 7 % 2 ^ 5 = d0 at *
  generalize x.toNat / 2 ^ 25 % 2 ^ 7 = d1 at *
  unfold number val_S
  show (Wd.sign _ 12).toInt = _
  rw [sign_int _ 12 12 rfl (by omega) (by omega) (by rw [e]; omega), e]
theorem digits_S (d0 d1 : Nat) (l0 : d0 < 2 ^ 5) (l1 : d1 < 2 ^ 7) : (-2048) ≤ val_S d0 d1 ∧ val_S d0 d1 ≤ 2047 ∧ val_S d0 d1 % 1 = 0 ∧ (BitVec.ofInt 32 (val_S d0 d1)).toNat / 2 ^ 0 % 2 ^ 5 = d0 ∧ (BitVec.ofInt 32 (val_S d0 d1)).toNat / 2 ^ 5 % 2 ^ 7 = d1 := by
  have hU := ofInt_nat (val_S d0 d1)
  generalize (BitVec.ofInt 32 (val_S d0 d1)).toNat = U at *
  unfold val_S at *
  split at hU
  all_goals refine ⟨?_, ?_, ?_, ?_, ?_⟩
  all_goals (try split) <;> omega
theorem back_S (n : Int) (h0 : (-2048) ≤ n) (h1 : n ≤ 2047) (h2 : n % 1 = 0) : val_S ((BitVec.ofInt 32 n).toNat / 2 ^ 0 % 2 ^ 5) ((BitVec.ofInt 32 n).toNat / 2 ^ 5 % 2 ^ 7) = n := by
  have hU := ofInt_nat n
  generalize (BitVec.ofInt 32 n).toNat = U at *
  unfold val_S
  split <;> omega
end Ip
end Go.Proofs.Ythlefedljgmmfaa
namespace Go.Proofs.Ythlefedljgmmfaa
open Go.RowKit
namespace Ip

/-- What is asked of a word, for a kind of the form f with these bits. -/
def asksF (f o a b : Nat) (x : BitVec 32) : Bool := ((o : Int) == ((Wd.field x 0 7).toNat : Int)) && told f o a b x ((Wd.field x 12 3).toNat : Int) ((Wd.field x 25 7).toNat : Int)
def encF (f o a b : Nat) (rd rs1 rs2 imm : Int) : BitVec 32 := putIf (hRs2 f) (putIf (hRs1 f) (putIf (hRd f) (wnV (stemW f o a b) f imm 4) 7 rd) 15 rs1) 20 rs2
theorem reg_nat (r : Int) (h0 : 0 ≤ r) (h1 : r ≤ 31) : (BitVec.ofInt 32 r).toNat % 2 ^ 5 = r.toNat := by
  have := ofInt_nat r; omega
theorem reg_back (n : Nat) (hn : n < 32) : (BitVec.ofInt 32 (n : Int)).toNat % 2 ^ 5 = n := by
  have := ofInt_nat (n : Int); omega
theorem fit_true {r : Int} (h : fit r true = true) : 0 ≤ r ∧ r ≤ 31 := by unfold fit at h; rw [if_pos rfl] at h; exact of_decide_eq_true h
theorem fit_false {r : Int} (h : fit r false = true) : r = 0 := by unfold fit at h; rw [if_neg (by decide)] at h; exact of_decide_eq_true h
theorem fit_mk (n : Nat) (h : n < 32) : fit (n : Int) true = true := by unfold fit; rw [if_pos rfl]; exact decide_eq_true (by omega)
theorem fit_zero : fit 0 false = true := rfl
theorem span_of {a b c n : Int} (h : inSpan a b c n = true) : a ≤ n ∧ n ≤ b ∧ n % c = 0 := of_decide_eq_true h
theorem span_mk {a b c n : Int} (h0 : a ≤ n) (h1 : n ≤ b) (h2 : n % c = 0) : inSpan a b c n = true := decide_eq_true ⟨h0, h1, h2⟩
theorem beq_nat {a b : Nat} : ((a : Int) == (b : Int)) = true ↔ a = b := by rw [beq_iff_eq]; omega
theorem encF_U (o : Nat) (rd rs1 rs2 imm : Int) : encF 85 o 0 0 rd rs1 rs2 imm = (Wd.put (Wd.put (stemW 85 o 0 0) 12 20 (Wd.field (BitVec.ofInt 32 imm) 0 20)) 7 5 (BitVec.ofInt 32 rd)) := by
  have e : encF 85 o 0 0 rd rs1 rs2 imm = (Wd.put (Wd.put (Wd.put (Wd.put (Wd.put (stemW 85 o 0 0) 12 20 (Wd.field (BitVec.ofInt 32 imm) 0 20)) 0 0 (Wd.field (BitVec.ofInt 32 imm) 0 0)) 0 0 (Wd.field (BitVec.ofInt 32 imm) 0 0)) 0 0 (Wd.field (BitVec.ofInt 32 imm) 0 0)) 7 5 (BitVec.ofInt 32 rd)) := rfl
  rw [e, put_none, put_none, put_none]
theorem there_U (o : Nat) (ho : o < 128) (rd rs1 rs2 imm : Int) (g1 : fit rd true = true) (g2 : fit rs1 false = true) (g3 : fit rs2 false = true) (g4 : inSpan (lo 85) (hi 85) (st 85) imm = true) :
    asksF 85 o 0 0 (encF 85 o 0 0 rd rs1 rs2 imm) = true ∧ regIf true (encF 85 o 0 0 rd rs1 rs2 imm) 7 = rd ∧ regIf false (encF 85 o 0 0 rd rs1 rs2 imm) 15 = rs1 ∧ regIf false (encF 85 o 0 0 rd rs1 rs2 imm) 20 = rs2 ∧ number (encF 85 o 0 0 rd rs1 rs2 imm) 85 = imm := by
  rw [encF_U]
  obtain ⟨q0, q1, q2⟩ := fields_U (stemW 85 o 0 0) (Wd.field (BitVec.ofInt 32 imm) 0 20) (BitVec.ofInt 32 rd) o ho (by rw [stem_nat 85 o 0 0 (by decide) ho (by omega) (by omega)]; omega)
  generalize (Wd.put (Wd.put (stemW 85 o 0 0) 12 20 (Wd.field (BitVec.ofInt 32 imm) 0 20)) 7 5 (BitVec.ofInt 32 rd)) = W at *
  have z0 := field_nat W 0 7 0 7 rfl rfl (by omega) (by omega)
  rw [q2] at z0
  refine ⟨?_, ?_, ?_, ?_, ?_⟩
  · show ((((o : Nat) : Int) == _) && true) = true; rw [z0]; simp
  · have := fit_true g1
    show ((Wd.field W 7 5).toNat : Int) = _
    rw [field_nat W 7 5 7 5 rfl rfl (by omega) (by omega), q1, reg_nat _ this.1 this.2]; omega
  · exact (fit_false g2).symm
  · exact (fit_false g3).symm
  · obtain ⟨s0, s1, s2⟩ := span_of g4
    rw [number_U, q0, field_nat (BitVec.ofInt 32 imm) 0 20 0 20 rfl rfl (by omega) (by omega), Nat.mod_mod]
    exact back_U imm s0 s1 s2
theorem again_U (o : Nat) (ho : o < 128) (x : BitVec 32) (h : asksF 85 o 0 0 x = true) :
    fit (regIf true x 7) true = true ∧ fit (regIf false x 15) false = true ∧ fit (regIf false x 20) false = true ∧ inSpan (lo 85) (hi 85) (st 85) (number x 85) = true ∧ encF 85 o 0 0 (regIf true x 7) (regIf false x 15) (regIf false x 20) (number x 85) = x := by
  have z0 := field_nat x 0 7 0 7 rfl rfl (by omega) (by omega)
  have h' : ((((o : Nat) : Int) == ((Wd.field x 0 7).toNat : Int)) && true) = true := h
  rw [Bool.and_true, beq_nat, z0] at h'
  have w0 := h'
  have hd := digits_U (x.toNat / 2 ^ 12 % 2 ^ 20) (Nat.mod_lt _ (by decide))
  rw [← number_U x] at hd
  obtain ⟨s0, s1, s2, v0⟩ := hd
  have y7 := field_nat x 7 5 7 5 rfl rfl (by omega) (by omega)
  have l7 : x.toNat / 2 ^ 7 % 2 ^ 5 < 32 := Nat.mod_lt _ (by decide)
  refine ⟨fit_mk _ (by rw [y7]; exact l7), fit_zero, fit_zero, span_mk s0 s1 s2, ?_⟩
  rw [encF_U]
  obtain ⟨q0, q1, q2⟩ := fields_U (stemW 85 o 0 0) (Wd.field (BitVec.ofInt 32 (number x 85)) 0 20) (BitVec.ofInt 32 (regIf true x 7)) o ho (by rw [stem_nat 85 o 0 0 (by decide) ho (by omega) (by omega)]; omega)
  generalize (Wd.put (Wd.put (stemW 85 o 0 0) 12 20 (Wd.field (BitVec.ofInt 32 (number x 85)) 0 20)) 7 5 (BitVec.ofInt 32 (regIf true x 7))) = W at *
  exact eq_U W x (by rw [q2]; exact w0) (by rw [q1]; exact (reg_back _ (by rw [y7]; exact l7)).trans y7) (by rw [q0, field_nat (BitVec.ofInt 32 (number x 85)) 0 20 0 20 rfl rfl (by omega) (by omega), Nat.mod_mod]; exact v0)
theorem encF_J (o : Nat) (rd rs1 rs2 imm : Int) : encF 74 o 0 0 rd rs1 rs2 imm = (Wd.put (Wd.put (Wd.put (Wd.put (Wd.put (stemW 74 o 0 0) 31 1 (Wd.field (BitVec.ofInt 32 imm) 20 1)) 12 8 (Wd.field (BitVec.ofInt 32 imm) 12 8)) 20 1 (Wd.field (BitVec.ofInt 32 imm) 11 1)) 21 10 (Wd.field (BitVec.ofInt 32 imm) 1 10)) 7 5 (BitVec.ofInt 32 rd)) := by
  have e : encF 74 o 0 0 rd rs1 rs2 imm = (Wd.put (Wd.put (Wd.put (Wd.put (Wd.put (stemW 74 o 0 0) 31 1 (Wd.field (BitVec.ofInt 32 imm) 20 1)) 12 8 (Wd.field (BitVec.ofInt 32 imm) 12 8)) 20 1 (Wd.field (BitVec.ofInt 32 imm) 11 1)) 21 10 (Wd.field (BitVec.ofInt 32 imm) 1 10)) 7 5 (BitVec.ofInt 32 rd)) := rfl
  rw [e]
theorem there_J (o : Nat) (ho : o < 128) (rd rs1 rs2 imm : Int) (g1 : fit rd true = true) (g2 : fit rs1 false = true) (g3 : fit rs2 false = true) (g4 : inSpan (lo 74) (hi 74) (st 74) imm = true) :
    asksF 74 o 0 0 (encF 74 o 0 0 rd rs1 rs2 imm) = true ∧ regIf true (encF 74 o 0 0 rd rs1 rs2 imm) 7 = rd ∧ regIf false (encF 74 o 0 0 rd rs1 rs2 imm) 15 = rs1 ∧ regIf false (encF 74 o 0 0 rd rs1 rs2 imm) 20 = rs2 ∧ number (encF 74 o 0 0 rd rs1 rs2 imm) 74 = imm := by
  rw [encF_J]
  obtain ⟨q0, q1, q2, q3, q4, q5⟩ := fields_J (stemW 74 o 0 0) (Wd.field (BitVec.ofInt 32 imm) 20 1) (Wd.field (BitVec.ofInt 32 imm) 12 8) (Wd.field (BitVec.ofInt 32 imm) 11 1) (Wd.field (BitVec.ofInt 32 imm) 1 10) (BitVec.ofInt 32 rd) o ho (by rw [stem_nat 74 o 0 0 (by decide) ho (by omega) (by omega)]; omega)
  generalize (Wd.put (Wd.put (Wd.put (Wd.put (Wd.put (stemW 74 o 0 0) 31 1 (Wd.field (BitVec.ofInt 32 imm) 20 1)) 12 8 (Wd.field (BitVec.ofInt 32 imm) 12 8)) 20 1 (Wd.field (BitVec.ofInt 32 imm) 11 1)) 21 10 (Wd.field (BitVec.ofInt 32 imm) 1 10)) 7 5 (BitVec.ofInt 32 rd)) = W at *
  have z0 := field_nat W 0 7 0 7 rfl rfl (by omega) (by omega)
  rw [q5] at z0
  refine ⟨?_, ?_, ?_, ?_, ?_⟩
  · show ((((o : Nat) : Int) == _) && true) = true; rw [z0]; simp
  · have := fit_true g1
    show ((Wd.field W 7 5).toNat : Int) = _
    rw [field_nat W 7 5 7 5 rfl rfl (by omega) (by omega), q4, reg_nat _ this.1 this.2]; omega
  · exact (fit_false g2).symm
  · exact (fit_false g3).symm
  · obtain ⟨s0, s1, s2⟩ := span_of g4
    rw [number_J, q0, field_nat (BitVec.ofInt 32 imm) 20 1 20 1 rfl rfl (by omega) (by omega), Nat.mod_mod, q1, field_nat (BitVec.ofInt 32 imm) 12 8 12 8 rfl rfl (by omega) (by omega), Nat.mod_mod, q2, field_nat (BitVec.ofInt 32 imm) 11 1 11 1 rfl rfl (by omega) (by omega), Nat.mod_mod, q3, field_nat (BitVec.ofInt 32 imm) 1 10 1 10 rfl rfl (by omega) (by omega), Nat.mod_mod]
    exact back_J imm s0 s1 s2
theorem again_J (o : Nat) (ho : o < 128) (x : BitVec 32) (h : asksF 74 o 0 0 x = true) :
    fit (regIf true x 7) true = true ∧ fit (regIf false x 15) false = true ∧ fit (regIf false x 20) false = true ∧ inSpan (lo 74) (hi 74) (st 74) (number x 74) = true ∧ encF 74 o 0 0 (regIf true x 7) (regIf false x 15) (regIf false x 20) (number x 74) = x := by
  have z0 := field_nat x 0 7 0 7 rfl rfl (by omega) (by omega)
  have h' : ((((o : Nat) : Int) == ((Wd.field x 0 7).toNat : Int)) && true) = true := h
  rw [Bool.and_true, beq_nat, z0] at h'
  have w0 := h'
  have hd := digits_J (x.toNat / 2 ^ 31 % 2 ^ 1) (x.toNat / 2 ^ 12 % 2 ^ 8) (x.toNat / 2 ^ 20 % 2 ^ 1) (x.toNat / 2 ^ 21 % 2 ^ 10) (Nat.mod_lt _ (by decide)) (Nat.mod_lt _ (by decide)) (Nat.mod_lt _ (by decide)) (Nat.mod_lt _ (by decide))
  rw [← number_J x] at hd
  obtain ⟨s0, s1, s2, v0, v1, v2, v3⟩ := hd
  have y7 := field_nat x 7 5 7 5 rfl rfl (by omega) (by omega)
  have l7 : x.toNat / 2 ^ 7 % 2 ^ 5 < 32 := Nat.mod_lt _ (by decide)
  refine ⟨fit_mk _ (by rw [y7]; exact l7), fit_zero, fit_zero, span_mk s0 s1 s2, ?_⟩
  rw [encF_J]
  obtain ⟨q0, q1, q2, q3, q4, q5⟩ := fields_J (stemW 74 o 0 0) (Wd.field (BitVec.ofInt 32 (number x 74)) 20 1) (Wd.field (BitVec.ofInt 32 (number x 74)) 12 8) (Wd.field (BitVec.ofInt 32 (number x 74)) 11 1) (Wd.field (BitVec.ofInt 32 (number x 74)) 1 10) (BitVec.ofInt 32 (regIf true x 7)) o ho (by rw [stem_nat 74 o 0 0 (by decide) ho (by omega) (by omega)]; omega)
  generalize (Wd.put (Wd.put (Wd.put (Wd.put (Wd.put (stemW 74 o 0 0) 31 1 (Wd.field (BitVec.ofInt 32 (number x 74)) 20 1)) 12 8 (Wd.field (BitVec.ofInt 32 (number x 74)) 12 8)) 20 1 (Wd.field (BitVec.ofInt 32 (number x 74)) 11 1)) 21 10 (Wd.field (BitVec.ofInt 32 (number x 74)) 1 10)) 7 5 (BitVec.ofInt 32 (regIf true x 7))) = W at *
  exact eq_J W x (by rw [q5]; exact w0) (by rw [q4]; exact (reg_back _ (by rw [y7]; exact l7)).trans y7) (by rw [q1, field_nat (BitVec.ofInt 32 (number x 74)) 12 8 12 8 rfl rfl (by omega) (by omega), Nat.mod_mod]; exact v1) (by rw [q2, field_nat (BitVec.ofInt 32 (number x 74)) 11 1 11 1 rfl rfl (by omega) (by omega), Nat.mod_mod]; exact v2) (by rw [q3, field_nat (BitVec.ofInt 32 (number x 74)) 1 10 1 10 rfl rfl (by omega) (by omega), Nat.mod_mod]; exact v3) (by rw [q0, field_nat (BitVec.ofInt 32 (number x 74)) 20 1 20 1 rfl rfl (by omega) (by omega), Nat.mod_mod]; exact v0)
theorem encF_I (o a : Nat) (rd rs1 rs2 imm : Int) : encF 73 o a 0 rd rs1 rs2 imm = (Wd.put (Wd.put (Wd.put (stemW 73 o a 0) 20 12 (Wd.field (BitVec.ofInt 32 imm) 0 12)) 7 5 (BitVec.ofInt 32 rd)) 15 5 (BitVec.ofInt 32 rs1)) := by
  have e : encF 73 o a 0 rd rs1 rs2 imm = (Wd.put (Wd.put (Wd.put (Wd.put (Wd.put (Wd.put (stemW 73 o a 0) 20 12 (Wd.field (BitVec.ofInt 32 imm) 0 12)) 0 0 (Wd.field (BitVec.ofInt 32 imm) 0 0)) 0 0 (Wd.field (BitVec.ofInt 32 imm) 0 0)) 0 0 (Wd.field (BitVec.ofInt 32 imm) 0 0)) 7 5 (BitVec.ofInt 32 rd)) 15 5 (BitVec.ofInt 32 rs1)) := rfl
  rw [e, put_none, put_none, put_none]
theorem there_I (o a : Nat) (ho : o < 128) (ha : a < 8) (rd rs1 rs2 imm : Int) (g1 : fit rd true = true) (g2 : fit rs1 true = true) (g3 : fit rs2 false = true) (g4 : inSpan (lo 73) (hi 73) (st 73) imm = true) :
    asksF 73 o a 0 (encF 73 o a 0 rd rs1 rs2 imm) = true ∧ regIf true (encF 73 o a 0 rd rs1 rs2 imm) 7 = rd ∧ regIf true (encF 73 o a 0 rd rs1 rs2 imm) 15 = rs1 ∧ regIf false (encF 73 o a 0 rd rs1 rs2 imm) 20 = rs2 ∧ number (encF 73 o a 0 rd rs1 rs2 imm) 73 = imm := by
  rw [encF_I]
  obtain ⟨q0, q1, q2, q3, q4⟩ := fields_I (stemW 73 o a 0) (Wd.field (BitVec.ofInt 32 imm) 0 12) (BitVec.ofInt 32 rd) (BitVec.ofInt 32 rs1) o a ho (by rw [stem_nat 73 o a 0 (by decide) ho (by omega) (by omega)]; omega) ha
  generalize (Wd.put (Wd.put (Wd.put (stemW 73 o a 0) 20 12 (Wd.field (BitVec.ofInt 32 imm) 0 12)) 7 5 (BitVec.ofInt 32 rd)) 15 5 (BitVec.ofInt 32 rs1)) = W at *
  have z0 := field_nat W 0 7 0 7 rfl rfl (by omega) (by omega)
  have z3 := field_nat W 12 3 12 3 rfl rfl (by omega) (by omega)
  rw [q3] at z0
  rw [q4] at z3
  refine ⟨?_, ?_, ?_, ?_, ?_⟩
  · show ((((o : Nat) : Int) == _) && (_ == ((a : Nat) : Int))) = true; rw [z0, z3]; simp
  · have := fit_true g1
    show ((Wd.field W 7 5).toNat : Int) = _
    rw [field_nat W 7 5 7 5 rfl rfl (by omega) (by omega), q1, reg_nat _ this.1 this.2]; omega
  · have := fit_true g2
    show ((Wd.field W 15 5).toNat : Int) = _
    rw [field_nat W 15 5 15 5 rfl rfl (by omega) (by omega), q2, reg_nat _ this.1 this.2]; omega
  · exact (fit_false g3).symm
  · obtain ⟨s0, s1, s2⟩ := span_of g4
    rw [number_I, q0, field_nat (BitVec.ofInt 32 imm) 0 12 0 12 rfl rfl (by omega) (by omega), Nat.mod_mod]
    exact back_I imm s0 s1 s2
theorem again_I (o a : Nat) (ho : o < 128) (ha : a < 8) (x : BitVec 32) (h : asksF 73 o a 0 x = true) :
    fit (regIf true x 7) true = true ∧ fit (regIf true x 15) true = true ∧ fit (regIf false x 20) false = true ∧ inSpan (lo 73) (hi 73) (st 73) (number x 73) = true ∧ encF 73 o a 0 (regIf true x 7) (regIf true x 15) (regIf false x 20) (number x 73) = x := by
  have z0 := field_nat x 0 7 0 7 rfl rfl (by omega) (by omega)
  have z3 := field_nat x 12 3 12 3 rfl rfl (by omega) (by omega)
  have h' : ((((o : Nat) : Int) == ((Wd.field x 0 7).toNat : Int)) && (((Wd.field x 12 3).toNat : Int) == ((a : Nat) : Int))) = true := h
  rw [Bool.and_eq_true, beq_nat, beq_nat, z0, z3] at h'
  obtain ⟨w0, w3⟩ := h'
  have hd := digits_I (x.toNat / 2 ^ 20 % 2 ^ 12) (Nat.mod_lt _ (by decide))
  rw [← number_I x] at hd
  obtain ⟨s0, s1, s2, v0⟩ := hd
  have y7 := field_nat x 7 5 7 5 rfl rfl (by omega) (by omega)
  have l7 : x.toNat / 2 ^ 7 % 2 ^ 5 < 32 := Nat.mod_lt _ (by decide)
  have y15 := field_nat x 15 5 15 5 rfl rfl (by omega) (by omega)
  have l15 : x.toNat / 2 ^ 15 % 2 ^ 5 < 32 := Nat.mod_lt _ (by decide)
  refine ⟨fit_mk _ (by rw [y7]; exact l7), fit_mk _ (by rw [y15]; exact l15), fit_zero, span_mk s0 s1 s2, ?_⟩
  rw [encF_I]
  obtain ⟨q0, q1, q2, q3, q4⟩ := fields_I (stemW 73 o a 0) (Wd.field (BitVec.ofInt 32 (number x 73)) 0 12) (BitVec.ofInt 32 (regIf true x 7)) (BitVec.ofInt 32 (regIf true x 15)) o a ho (by rw [stem_nat 73 o a 0 (by decide) ho (by omega) (by omega)]; omega) ha
  generalize (Wd.put (Wd.put (Wd.put (stemW 73 o a 0) 20 12 (Wd.field (BitVec.ofInt 32 (number x 73)) 0 12)) 7 5 (BitVec.ofInt 32 (regIf true x 7))) 15 5 (BitVec.ofInt 32 (regIf true x 15))) = W at *
  exact eq_I W x (by rw [q3]; exact w0) (by rw [q1]; exact (reg_back _ (by rw [y7]; exact l7)).trans y7) (by rw [q4]; exact w3.symm) (by rw [q2]; exact (reg_back _ (by rw [y15]; exact l15)).trans y15) (by rw [q0, field_nat (BitVec.ofInt 32 (number x 73)) 0 12 0 12 rfl rfl (by omega) (by omega), Nat.mod_mod]; exact v0)
theorem encF_H (o a b : Nat) (rd rs1 rs2 imm : Int) : encF 72 o a b rd rs1 rs2 imm = (Wd.put (Wd.put (Wd.put (stemW 72 o a b) 20 5 (Wd.field (BitVec.ofInt 32 imm) 0 5)) 7 5 (BitVec.ofInt 32 rd)) 15 5 (BitVec.ofInt 32 rs1)) := by
  have e : encF 72 o a b rd rs1 rs2 imm = (Wd.put (Wd.put (Wd.put (Wd.put (Wd.put (Wd.put (stemW 72 o a b) 20 5 (Wd.field (BitVec.ofInt 32 imm) 0 5)) 0 0 (Wd.field (BitVec.ofInt 32 imm) 0 0)) 0 0 (Wd.field (BitVec.ofInt 32 imm) 0 0)) 0 0 (Wd.field (BitVec.ofInt 32 imm) 0 0)) 7 5 (BitVec.ofInt 32 rd)) 15 5 (BitVec.ofInt 32 rs1)) := rfl
  rw [e, put_none, put_none, put_none]
theorem there_H (o a b : Nat) (ho : o < 128) (ha : a < 8) (hb : b < 128) (rd rs1 rs2 imm : Int) (g1 : fit rd true = true) (g2 : fit rs1 true = true) (g3 : fit rs2 false = true) (g4 : inSpan (lo 72) (hi 72) (st 72) imm = true) :
    asksF 72 o a b (encF 72 o a b rd rs1 rs2 imm) = true ∧ regIf true (encF 72 o a b rd rs1 rs2 imm) 7 = rd ∧ regIf true (encF 72 o a b rd rs1 rs2 imm) 15 = rs1 ∧ regIf false (encF 72 o a b rd rs1 rs2 imm) 20 = rs2 ∧ number (encF 72 o a b rd rs1 rs2 imm) 72 = imm := by
  rw [encF_H]
  obtain ⟨q0, q1, q2, q3, q4, q5⟩ := fields_H (stemW 72 o a b) (Wd.field (BitVec.ofInt 32 imm) 0 5) (BitVec.ofInt 32 rd) (BitVec.ofInt 32 rs1) o a b ho (by rw [stem_nat 72 o a b (by decide) ho (by omega) (by omega)]) ha hb
  generalize (Wd.put (Wd.put (Wd.put (stemW 72 o a b) 20 5 (Wd.field (BitVec.ofInt 32 imm) 0 5)) 7 5 (BitVec.ofInt 32 rd)) 15 5 (BitVec.ofInt 32 rs1)) = W at *
  have z0 := field_nat W 0 7 0 7 rfl rfl (by omega) (by omega)
  have z3 := field_nat W 12 3 12 3 rfl rfl (by omega) (by omega)
  have z7 := field_nat W 25 7 25 7 rfl rfl (by omega) (by omega)
  rw [q3] at z0
  rw [q4] at z3
  rw [q5] at z7
  refine ⟨?_, ?_, ?_, ?_, ?_⟩
  · show ((((o : Nat) : Int) == _) && ((_ == ((a : Nat) : Int)) && (_ == ((b : Nat) : Int)))) = true; rw [z0, z3, z7]; simp
  · have := fit_true g1
    show ((Wd.field W 7 5).toNat : Int) = _
    rw [field_nat W 7 5 7 5 rfl rfl (by omega) (by omega), q1, reg_nat _ this.1 this.2]; omega
  · have := fit_true g2
    show ((Wd.field W 15 5).toNat : Int) = _
    rw [field_nat W 15 5 15 5 rfl rfl (by omega) (by omega), q2, reg_nat _ this.1 this.2]; omega
  · exact (fit_false g3).symm
  · obtain ⟨s0, s1, s2⟩ := span_of g4
    rw [number_H, q0, field_nat (BitVec.ofInt 32 imm) 0 5 0 5 rfl rfl (by omega) (by omega), Nat.mod_mod]
    exact back_H imm s0 s1 s2
theorem again_H (o a b : Nat) (ho : o < 128) (ha : a < 8) (hb : b < 128) (x : BitVec 32) (h : asksF 72 o a b x = true) :
    fit (regIf true x 7) true = true ∧ fit (regIf true x 15) true = true ∧ fit (regIf false x 20) false = true ∧ inSpan (lo 72) (hi 72) (st 72) (number x 72) = true ∧ encF 72 o a b (regIf true x 7) (regIf true x 15) (regIf false x 20) (number x 72) = x := by
  have z0 := field_nat x 0 7 0 7 rfl rfl (by omega) (by omega)
  have z3 := field_nat x 12 3 12 3 rfl rfl (by omega) (by omega)
  have z7 := field_nat x 25 7 25 7 rfl rfl (by omega) (by omega)
  have h' : ((((o : Nat) : Int) == ((Wd.field x 0 7).toNat : Int)) && ((((Wd.field x 12 3).toNat : Int) == ((a : Nat) : Int)) && (((Wd.field x 25 7).toNat : Int) == ((b : Nat) : Int)))) = true := h
  rw [Bool.and_eq_true, Bool.and_eq_true, beq_nat, beq_nat, beq_nat, z0, z3, z7] at h'
  obtain ⟨w0, w3, w7⟩ := h'
  have hd := digits_H (x.toNat / 2 ^ 20 % 2 ^ 5) (Nat.mod_lt _ (by decide))
  rw [← number_H x] at hd
  obtain ⟨s0, s1, s2, v0⟩ := hd
  have y7 := field_nat x 7 5 7 5 rfl rfl (by omega) (by omega)
  have l7 : x.toNat / 2 ^ 7 % 2 ^ 5 < 32 := Nat.mod_lt _ (by decide)
  have y15 := field_nat x 15 5 15 5 rfl rfl (by omega) (by omega)
  have l15 : x.toNat / 2 ^ 15 % 2 ^ 5 < 32 := Nat.mod_lt _ (by decide)
  refine ⟨fit_mk _ (by rw [y7]; exact l7), fit_mk _ (by rw [y15]; exact l15), fit_zero, span_mk s0 s1 s2, ?_⟩
  rw [encF_H]
  obtain ⟨q0, q1, q2, q3, q4, q5⟩ := fields_H (stemW 72 o a b) (Wd.field (BitVec.ofInt 32 (number x 72)) 0 5) (BitVec.ofInt 32 (regIf true x 7)) (BitVec.ofInt 32 (regIf true x 15)) o a b ho (by rw [stem_nat 72 o a b (by decide) ho (by omega) (by omega)]) ha hb
  generalize (Wd.put (Wd.put (Wd.put (stemW 72 o a b) 20 5 (Wd.field (BitVec.ofInt 32 (number x 72)) 0 5)) 7 5 (BitVec.ofInt 32 (regIf true x 7))) 15 5 (BitVec.ofInt 32 (regIf true x 15))) = W at *
  exact eq_H W x (by rw [q3]; exact w0) (by rw [q1]; exact (reg_back _ (by rw [y7]; exact l7)).trans y7) (by rw [q4]; exact w3.symm) (by rw [q2]; exact (reg_back _ (by rw [y15]; exact l15)).trans y15) (by rw [q0, field_nat (BitVec.ofInt 32 (number x 72)) 0 5 0 5 rfl rfl (by omega) (by omega), Nat.mod_mod]; exact v0) (by rw [q5]; exact w7.symm)
theorem encF_B (o a : Nat) (rd rs1 rs2 imm : Int) : encF 66 o a 0 rd rs1 rs2 imm = (Wd.put (Wd.put (Wd.put (Wd.put (Wd.put (Wd.put (stemW 66 o a 0) 31 1 (Wd.field (BitVec.ofInt 32 imm) 12 1)) 7 1 (Wd.field (BitVec.ofInt 32 imm) 11 1)) 25 6 (Wd.field (BitVec.ofInt 32 imm) 5 6)) 8 4 (Wd.field (BitVec.ofInt 32 imm) 1 4)) 15 5 (BitVec.ofInt 32 rs1)) 20 5 (BitVec.ofInt 32 rs2)) := by
  have e : encF 66 o a 0 rd rs1 rs2 imm = (Wd.put (Wd.put (Wd.put (Wd.put (Wd.put (Wd.put (stemW 66 o a 0) 31 1 (Wd.field (BitVec.ofInt 32 imm) 12 1)) 7 1 (Wd.field (BitVec.ofInt 32 imm) 11 1)) 25 6 (Wd.field (BitVec.ofInt 32 imm) 5 6)) 8 4 (Wd.field (BitVec.ofInt 32 imm) 1 4)) 15 5 (BitVec.ofInt 32 rs1)) 20 5 (BitVec.ofInt 32 rs2)) := rfl
  rw [e]
theorem there_B (o a : Nat) (ho : o < 128) (ha : a < 8) (rd rs1 rs2 imm : Int) (g1 : fit rd false = true) (g2 : fit rs1 true = true) (g3 : fit rs2 true = true) (g4 : inSpan (lo 66) (hi 66) (st 66) imm = true) :
    asksF 66 o a 0 (encF 66 o a 0 rd rs1 rs2 imm) = true ∧ regIf false (encF 66 o a 0 rd rs1 rs2 imm) 7 = rd ∧ regIf true (encF 66 o a 0 rd rs1 rs2 imm) 15 = rs1 ∧ regIf true (encF 66 o a 0 rd rs1 rs2 imm) 20 = rs2 ∧ number (encF 66 o a 0 rd rs1 rs2 imm) 66 = imm := by
  rw [encF_B]
  obtain ⟨q0, q1, q2, q3, q4, q5, q6, q7⟩ := fields_B (stemW 66 o a 0) (Wd.field (BitVec.ofInt 32 imm) 12 1) (Wd.field (BitVec.ofInt 32 imm) 11 1) (Wd.field (BitVec.ofInt 32 imm) 5 6) (Wd.field (BitVec.ofInt 32 imm) 1 4) (BitVec.ofInt 32 rs1) (BitVec.ofInt 32 rs2) o a ho (by rw [stem_nat 66 o a 0 (by decide) ho (by omega) (by omega)]; omega) ha
  generalize (Wd.put (Wd.put (Wd.put (Wd.put (Wd.put (Wd.put (stemW 66 o a 0) 31 1 (Wd.field (BitVec.ofInt 32 imm) 12 1)) 7 1 (Wd.field (BitVec.ofInt 32 imm) 11 1)) 25 6 (Wd.field (BitVec.ofInt 32 imm) 5 6)) 8 4 (Wd.field (BitVec.ofInt 32 imm) 1 4)) 15 5 (BitVec.ofInt 32 rs1)) 20 5 (BitVec.ofInt 32 rs2)) = W at *
  have z0 := field_nat W 0 7 0 7 rfl rfl (by omega) (by omega)
  have z3 := field_nat W 12 3 12 3 rfl rfl (by omega) (by omega)
  rw [q6] at z0
  rw [q7] at z3
  refine ⟨?_, ?_, ?_, ?_, ?_⟩
  · show ((((o : Nat) : Int) == _) && (_ == ((a : Nat) : Int))) = true; rw [z0, z3]; simp
  · exact (fit_false g1).symm
  · have := fit_true g2
    show ((Wd.field W 15 5).toNat : Int) = _
    rw [field_nat W 15 5 15 5 rfl rfl (by omega) (by omega), q4, reg_nat _ this.1 this.2]; omega
  · have := fit_true g3
    show ((Wd.field W 20 5).toNat : Int) = _
    rw [field_nat W 20 5 20 5 rfl rfl (by omega) (by omega), q5, reg_nat _ this.1 this.2]; omega
  · obtain ⟨s0, s1, s2⟩ := span_of g4
    rw [number_B, q0, field_nat (BitVec.ofInt 32 imm) 12 1 12 1 rfl rfl (by omega) (by omega), Nat.mod_mod, q1, field_nat (BitVec.ofInt 32 imm) 11 1 11 1 rfl rfl (by omega) (by omega), Nat.mod_mod, q2, field_nat (BitVec.ofInt 32 imm) 5 6 5 6 rfl rfl (by omega) (by omega), Nat.mod_mod, q3, field_nat (BitVec.ofInt 32 imm) 1 4 1 4 rfl rfl (by omega) (by omega), Nat.mod_mod]
    exact back_B imm s0 s1 s2
theorem again_B (o a : Nat) (ho : o < 128) (ha : a < 8) (x : BitVec 32) (h : asksF 66 o a 0 x = true) :
    fit (regIf false x 7) false = true ∧ fit (regIf true x 15) true = true ∧ fit (regIf true x 20) true = true ∧ inSpan (lo 66) (hi 66) (st 66) (number x 66) = true ∧ encF 66 o a 0 (regIf false x 7) (regIf true x 15) (regIf true x 20) (number x 66) = x := by
  have z0 := field_nat x 0 7 0 7 rfl rfl (by omega) (by omega)
  have z3 := field_nat x 12 3 12 3 rfl rfl (by omega) (by omega)
  have h' : ((((o : Nat) : Int) == ((Wd.field x 0 7).toNat : Int)) && (((Wd.field x 12 3).toNat : Int) == ((a : Nat) : Int))) = true := h
  rw [Bool.and_eq_true, beq_nat, beq_nat, z0, z3] at h'
  obtain ⟨w0, w3⟩ := h'
  have hd := digits_B (x.toNat / 2 ^ 31 % 2 ^ 1) (x.toNat / 2 ^ 7 % 2 ^ 1) (x.toNat / 2 ^ 25 % 2 ^ 6) (x.toNat / 2 ^ 8 % 2 ^ 4) (Nat.mod_lt _ (by decide)) (Nat.mod_lt _ (by decide)) (Nat.mod_lt _ (by decide)) (Nat.mod_lt _ (by decide))
  rw [← number_B x] at hd
  obtain ⟨s0, s1, s2, v0, v1, v2, v3⟩ := hd
  have y15 := field_nat x 15 5 15 5 rfl rfl (by omega) (by omega)
  have l15 : x.toNat / 2 ^ 15 % 2 ^ 5 < 32 := Nat.mod_lt _ (by decide)
  have y20 := field_nat x 20 5 20 5 rfl rfl (by omega) (by omega)
  have l20 : x.toNat / 2 ^ 20 % 2 ^ 5 < 32 := Nat.mod_lt _ (by decide)
  refine ⟨fit_zero, fit_mk _ (by rw [y15]; exact l15), fit_mk _ (by rw [y20]; exact l20), span_mk s0 s1 s2, ?_⟩
  rw [encF_B]
  obtain ⟨q0, q1, q2, q3, q4, q5, q6, q7⟩ := fields_B (stemW 66 o a 0) (Wd.field (BitVec.ofInt 32 (number x 66)) 12 1) (Wd.field (BitVec.ofInt 32 (number x 66)) 11 1) (Wd.field (BitVec.ofInt 32 (number x 66)) 5 6) (Wd.field (BitVec.ofInt 32 (number x 66)) 1 4) (BitVec.ofInt 32 (regIf true x 15)) (BitVec.ofInt 32 (regIf true x 20)) o a ho (by rw [stem_nat 66 o a 0 (by decide) ho (by omega) (by omega)]; omega) ha
  generalize (Wd.put (Wd.put (Wd.put (Wd.put (Wd.put (Wd.put (stemW 66 o a 0) 31 1 (Wd.field (BitVec.ofInt 32 (number x 66)) 12 1)) 7 1 (Wd.field (BitVec.ofInt 32 (number x 66)) 11 1)) 25 6 (Wd.field (BitVec.ofInt 32 (number x 66)) 5 6)) 8 4 (Wd.field (BitVec.ofInt 32 (number x 66)) 1 4)) 15 5 (BitVec.ofInt 32 (regIf true x 15))) 20 5 (BitVec.ofInt 32 (regIf true x 20))) = W at *
  exact eq_B W x (by rw [q6]; exact w0) (by rw [q1, field_nat (BitVec.ofInt 32 (number x 66)) 11 1 11 1 rfl rfl (by omega) (by omega), Nat.mod_mod]; exact v1) (by rw [q3, field_nat (BitVec.ofInt 32 (number x 66)) 1 4 1 4 rfl rfl (by omega) (by omega), Nat.mod_mod]; exact v3) (by rw [q7]; exact w3.symm) (by rw [q4]; exact (reg_back _ (by rw [y15]; exact l15)).trans y15) (by rw [q5]; exact (reg_back _ (by rw [y20]; exact l20)).trans y20) (by rw [q2, field_nat (BitVec.ofInt 32 (number x 66)) 5 6 5 6 rfl rfl (by omega) (by omega), Nat.mod_mod]; exact v2) (by rw [q0, field_nat (BitVec.ofInt 32 (number x 66)) 12 1 12 1 rfl rfl (by omega) (by omega), Nat.mod_mod]; exact v0)
theorem encF_S (o a : Nat) (rd rs1 rs2 imm : Int) : encF 83 o a 0 rd rs1 rs2 imm = (Wd.put (Wd.put (Wd.put (Wd.put (stemW 83 o a 0) 7 5 (Wd.field (BitVec.ofInt 32 imm) 0 5)) 25 7 (Wd.field (BitVec.ofInt 32 imm) 5 7)) 15 5 (BitVec.ofInt 32 rs1)) 20 5 (BitVec.ofInt 32 rs2)) := by
  have e : encF 83 o a 0 rd rs1 rs2 imm = (Wd.put (Wd.put (Wd.put (Wd.put (Wd.put (Wd.put (stemW 83 o a 0) 7 5 (Wd.field (BitVec.ofInt 32 imm) 0 5)) 25 7 (Wd.field (BitVec.ofInt 32 imm) 5 7)) 0 0 (Wd.field (BitVec.ofInt 32 imm) 0 0)) 0 0 (Wd.field (BitVec.ofInt 32 imm) 0 0)) 15 5 (BitVec.ofInt 32 rs1)) 20 5 (BitVec.ofInt 32 rs2)) := rfl
  rw [e, put_none, put_none]
theorem there_S (o a : Nat) (ho : o < 128) (ha : a < 8) (rd rs1 rs2 imm : Int) (g1 : fit rd false = true) (g2 : fit rs1 true = true) (g3 : fit rs2 true = true) (g4 : inSpan (lo 83) (hi 83) (st 83) imm = true) :
    asksF 83 o a 0 (encF 83 o a 0 rd rs1 rs2 imm) = true ∧ regIf false (encF 83 o a 0 rd rs1 rs2 imm) 7 = rd ∧ regIf true (encF 83 o a 0 rd rs1 rs2 imm) 15 = rs1 ∧ regIf true (encF 83 o a 0 rd rs1 rs2 imm) 20 = rs2 ∧ number (encF 83 o a 0 rd rs1 rs2 imm) 83 = imm := by
  rw [encF_S]
  obtain ⟨q0, q1, q2, q3, q4, q5⟩ := fields_S (stemW 83 o a 0) (Wd.field (BitVec.ofInt 32 imm) 0 5) (Wd.field (BitVec.ofInt 32 imm) 5 7) (BitVec.ofInt 32 rs1) (BitVec.ofInt 32 rs2) o a ho (by rw [stem_nat 83 o a 0 (by decide) ho (by omega) (by omega)]; omega) ha
  generalize (Wd.put (Wd.put (Wd.put (Wd.put (stemW 83 o a 0) 7 5 (Wd.field (BitVec.ofInt 32 imm) 0 5)) 25 7 (Wd.field (BitVec.ofInt 32 imm) 5 7)) 15 5 (BitVec.ofInt 32 rs1)) 20 5 (BitVec.ofInt 32 rs2)) = W at *
  have z0 := field_nat W 0 7 0 7 rfl rfl (by omega) (by omega)
  have z3 := field_nat W 12 3 12 3 rfl rfl (by omega) (by omega)
  rw [q4] at z0
  rw [q5] at z3
  refine ⟨?_, ?_, ?_, ?_, ?_⟩
  · show ((((o : Nat) : Int) == _) && (_ == ((a : Nat) : Int))) = true; rw [z0, z3]; simp
  · exact (fit_false g1).symm
  · have := fit_true g2
    show ((Wd.field W 15 5).toNat : Int) = _
    rw [field_nat W 15 5 15 5 rfl rfl (by omega) (by omega), q2, reg_nat _ this.1 this.2]; omega
  · have := fit_true g3
    show ((Wd.field W 20 5).toNat : Int) = _
    rw [field_nat W 20 5 20 5 rfl rfl (by omega) (by omega), q3, reg_nat _ this.1 this.2]; omega
  · obtain ⟨s0, s1, s2⟩ := span_of g4
    rw [number_S, q0, field_nat (BitVec.ofInt 32 imm) 0 5 0 5 rfl rfl (by omega) (by omega), Nat.mod_mod, q1, field_nat (BitVec.ofInt 32 imm) 5 7 5 7 rfl rfl (by omega) (by omega), Nat.mod_mod]
    exact back_S imm s0 s1 s2
theorem again_S (o a : Nat) (ho : o < 128) (ha : a < 8) (x : BitVec 32) (h : asksF 83 o a 0 x = true) :
    fit (regIf false x 7) false = true ∧ fit (regIf true x 15) true = true ∧ fit (regIf true x 20) true = true ∧ inSpan (lo 83) (hi 83) (st 83) (number x 83) = true ∧ encF 83 o a 0 (regIf false x 7) (regIf true x 15) (regIf true x 20) (number x 83) = x := by
  have z0 := field_nat x 0 7 0 7 rfl rfl (by omega) (by omega)
  have z3 := field_nat x 12 3 12 3 rfl rfl (by omega) (by omega)
  have h' : ((((o : Nat) : Int) == ((Wd.field x 0 7).toNat : Int)) && (((Wd.field x 12 3).toNat : Int) == ((a : Nat) : Int))) = true := h
  rw [Bool.and_eq_true, beq_nat, beq_nat, z0, z3] at h'
  obtain ⟨w0, w3⟩ := h'
  have hd := digits_S (x.toNat / 2 ^ 7 % 2 ^ 5) (x.toNat / 2 ^ 25 % 2 ^ 7) (Nat.mod_lt _ (by decide)) (Nat.mod_lt _ (by decide))
  rw [← number_S x] at hd
  obtain ⟨s0, s1, s2, v0, v1⟩ := hd
  have y15 := field_nat x 15 5 15 5 rfl rfl (by omega) (by omega)
  have l15 : x.toNat / 2 ^ 15 % 2 ^ 5 < 32 := Nat.mod_lt _ (by decide)
  have y20 := field_nat x 20 5 20 5 rfl rfl (by omega) (by omega)
  have l20 : x.toNat / 2 ^ 20 % 2 ^ 5 < 32 := Nat.mod_lt _ (by decide)
  refine ⟨fit_zero, fit_mk _ (by rw [y15]; exact l15), fit_mk _ (by rw [y20]; exact l20), span_mk s0 s1 s2, ?_⟩
  rw [encF_S]
  obtain ⟨q0, q1, q2, q3, q4, q5⟩ := fields_S (stemW 83 o a 0) (Wd.field (BitVec.ofInt 32 (number x 83)) 0 5) (Wd.field (BitVec.ofInt 32 (number x 83)) 5 7) (BitVec.ofInt 32 (regIf true x 15)) (BitVec.ofInt 32 (regIf true x 20)) o a ho (by rw [stem_nat 83 o a 0 (by decide) ho (by omega) (by omega)]; omega) ha
  generalize (Wd.put (Wd.put (Wd.put (Wd.put (stemW 83 o a 0) 7 5 (Wd.field (BitVec.ofInt 32 (number x 83)) 0 5)) 25 7 (Wd.field (BitVec.ofInt 32 (number x 83)) 5 7)) 15 5 (BitVec.ofInt 32 (regIf true x 15))) 20 5 (BitVec.ofInt 32 (regIf true x 20))) = W at *
  exact eq_S W x (by rw [q4]; exact w0) (by rw [q0, field_nat (BitVec.ofInt 32 (number x 83)) 0 5 0 5 rfl rfl (by omega) (by omega), Nat.mod_mod]; exact v0) (by rw [q5]; exact w3.symm) (by rw [q2]; exact (reg_back _ (by rw [y15]; exact l15)).trans y15) (by rw [q3]; exact (reg_back _ (by rw [y20]; exact l20)).trans y20) (by rw [q1, field_nat (BitVec.ofInt 32 (number x 83)) 5 7 5 7 rfl rfl (by omega) (by omega), Nat.mod_mod]; exact v1)
theorem encF_R (o a b : Nat) (rd rs1 rs2 imm : Int) : encF 82 o a b rd rs1 rs2 imm = (Wd.put (Wd.put (Wd.put (stemW 82 o a b) 7 5 (BitVec.ofInt 32 rd)) 15 5 (BitVec.ofInt 32 rs1)) 20 5 (BitVec.ofInt 32 rs2)) := by
  have e : encF 82 o a b rd rs1 rs2 imm = (Wd.put (Wd.put (Wd.put (Wd.put (Wd.put (Wd.put (Wd.put (stemW 82 o a b) 0 0 (Wd.field (BitVec.ofInt 32 imm) 0 0)) 0 0 (Wd.field (BitVec.ofInt 32 imm) 0 0)) 0 0 (Wd.field (BitVec.ofInt 32 imm) 0 0)) 0 0 (Wd.field (BitVec.ofInt 32 imm) 0 0)) 7 5 (BitVec.ofInt 32 rd)) 15 5 (BitVec.ofInt 32 rs1)) 20 5 (BitVec.ofInt 32 rs2)) := rfl
  rw [e, put_none, put_none, put_none, put_none]
theorem there_R (o a b : Nat) (ho : o < 128) (ha : a < 8) (hb : b < 128) (rd rs1 rs2 imm : Int) (g1 : fit rd true = true) (g2 : fit rs1 true = true) (g3 : fit rs2 true = true) (g4 : inSpan (lo 82) (hi 82) (st 82) imm = true) :
    asksF 82 o a b (encF 82 o a b rd rs1 rs2 imm) = true ∧ regIf true (encF 82 o a b rd rs1 rs2 imm) 7 = rd ∧ regIf true (encF 82 o a b rd rs1 rs2 imm) 15 = rs1 ∧ regIf true (encF 82 o a b rd rs1 rs2 imm) 20 = rs2 ∧ number (encF 82 o a b rd rs1 rs2 imm) 82 = imm := by
  rw [encF_R]
  obtain ⟨q0, q1, q2, q3, q4, q5⟩ := fields_R (stemW 82 o a b) (BitVec.ofInt 32 rd) (BitVec.ofInt 32 rs1) (BitVec.ofInt 32 rs2) o a b ho (by rw [stem_nat 82 o a b (by decide) ho (by omega) (by omega)]) ha hb
  generalize (Wd.put (Wd.put (Wd.put (stemW 82 o a b) 7 5 (BitVec.ofInt 32 rd)) 15 5 (BitVec.ofInt 32 rs1)) 20 5 (BitVec.ofInt 32 rs2)) = W at *
  have z0 := field_nat W 0 7 0 7 rfl rfl (by omega) (by omega)
  have z3 := field_nat W 12 3 12 3 rfl rfl (by omega) (by omega)
  have z7 := field_nat W 25 7 25 7 rfl rfl (by omega) (by omega)
  rw [q3] at z0
  rw [q4] at z3
  rw [q5] at z7
  refine ⟨?_, ?_, ?_, ?_, ?_⟩
  · show ((((o : Nat) : Int) == _) && ((_ == ((a : Nat) : Int)) && (_ == ((b : Nat) : Int)))) = true; rw [z0, z3, z7]; simp
  · have := fit_true g1
    show ((Wd.field W 7 5).toNat : Int) = _
    rw [field_nat W 7 5 7 5 rfl rfl (by omega) (by omega), q0, reg_nat _ this.1 this.2]; omega
  · have := fit_true g2
    show ((Wd.field W 15 5).toNat : Int) = _
    rw [field_nat W 15 5 15 5 rfl rfl (by omega) (by omega), q1, reg_nat _ this.1 this.2]; omega
  · have := fit_true g3
    show ((Wd.field W 20 5).toNat : Int) = _
    rw [field_nat W 20 5 20 5 rfl rfl (by omega) (by omega), q2, reg_nat _ this.1 this.2]; omega
  · obtain ⟨s0, s1, s2⟩ := span_of g4
    rw [num_none W 82 (by decide)]
    have : lo 82 = 0 := rfl
    have : hi 82 = 0 := rfl
    omega
theorem again_R (o a b : Nat) (ho : o < 128) (ha : a < 8) (hb : b < 128) (x : BitVec 32) (h : asksF 82 o a b x = true) :
    fit (regIf true x 7) true = true ∧ fit (regIf true x 15) true = true ∧ fit (regIf true x 20) true = true ∧ inSpan (lo 82) (hi 82) (st 82) (number x 82) = true ∧ encF 82 o a b (regIf true x 7) (regIf true x 15) (regIf true x 20) (number x 82) = x := by
  have z0 := field_nat x 0 7 0 7 rfl rfl (by omega) (by omega)
  have z3 := field_nat x 12 3 12 3 rfl rfl (by omega) (by omega)
  have z7 := field_nat x 25 7 25 7 rfl rfl (by omega) (by omega)
  have h' : ((((o : Nat) : Int) == ((Wd.field x 0 7).toNat : Int)) && ((((Wd.field x 12 3).toNat : Int) == ((a : Nat) : Int)) && (((Wd.field x 25 7).toNat : Int) == ((b : Nat) : Int)))) = true := h
  rw [Bool.and_eq_true, Bool.and_eq_true, beq_nat, beq_nat, beq_nat, z0, z3, z7] at h'
  obtain ⟨w0, w3, w7⟩ := h'
  have hn := num_none x 82 (by decide)
  have y7 := field_nat x 7 5 7 5 rfl rfl (by omega) (by omega)
  have l7 : x.toNat / 2 ^ 7 % 2 ^ 5 < 32 := Nat.mod_lt _ (by decide)
  have y15 := field_nat x 15 5 15 5 rfl rfl (by omega) (by omega)
  have l15 : x.toNat / 2 ^ 15 % 2 ^ 5 < 32 := Nat.mod_lt _ (by decide)
  have y20 := field_nat x 20 5 20 5 rfl rfl (by omega) (by omega)
  have l20 : x.toNat / 2 ^ 20 % 2 ^ 5 < 32 := Nat.mod_lt _ (by decide)
  refine ⟨fit_mk _ (by rw [y7]; exact l7), fit_mk _ (by rw [y15]; exact l15), fit_mk _ (by rw [y20]; exact l20), by rw [hn]; rfl, ?_⟩
  rw [encF_R]
  obtain ⟨q0, q1, q2, q3, q4, q5⟩ := fields_R (stemW 82 o a b) (BitVec.ofInt 32 (regIf true x 7)) (BitVec.ofInt 32 (regIf true x 15)) (BitVec.ofInt 32 (regIf true x 20)) o a b ho (by rw [stem_nat 82 o a b (by decide) ho (by omega) (by omega)]) ha hb
  generalize (Wd.put (Wd.put (Wd.put (stemW 82 o a b) 7 5 (BitVec.ofInt 32 (regIf true x 7))) 15 5 (BitVec.ofInt 32 (regIf true x 15))) 20 5 (BitVec.ofInt 32 (regIf true x 20))) = W at *
  exact eq_R W x (by rw [q3]; exact w0) (by rw [q0]; exact (reg_back _ (by rw [y7]; exact l7)).trans y7) (by rw [q4]; exact w3.symm) (by rw [q1]; exact (reg_back _ (by rw [y15]; exact l15)).trans y15) (by rw [q2]; exact (reg_back _ (by rw [y20]; exact l20)).trans y20) (by rw [q5]; exact w7.symm)
end Ip
end Go.Proofs.Ythlefedljgmmfaa
namespace Go.Proofs.Ythlefedljgmmfaa
open Go.RowKit
namespace Ip

def asked (x : BitVec 32) (k : Nat) : Bool := asksF (kf k) (ko k) (k3 k) (k7 k) x
theorem encF_E0 (o a b : Nat) (rd rs1 rs2 imm : Int) : encF 69 o a b rd rs1 rs2 imm = stemW 69 o a b := by
  have e : encF 69 o a b rd rs1 rs2 imm = (Wd.put (Wd.put (Wd.put (Wd.put (stemW 69 o a b) 0 0 (Wd.field (BitVec.ofInt 32 imm) 0 0)) 0 0 (Wd.field (BitVec.ofInt 32 imm) 0 0)) 0 0 (Wd.field (BitVec.ofInt 32 imm) 0 0)) 0 0 (Wd.field (BitVec.ofInt 32 imm) 0 0)) := rfl
  rw [e, put_none, put_none, put_none, put_none]
theorem encF_E (b : Nat) (rd rs1 rs2 imm : Int) : encF 69 115 0 b rd rs1 rs2 imm = stemW 69 115 0 b := encF_E0 115 0 b rd rs1 rs2 imm
theorem field_E (b : Nat) (hb : b ≤ 1) : (Wd.field (stemW 69 115 0 b) 0 7).toNat = 115 := by
  rw [field_nat _ 0 7 0 7 rfl rfl (by omega) (by omega), stem_nat_E 0 b (by omega) (by omega)]; omega
theorem there_E (b : Nat) (hb : b ≤ 1) (rd rs1 rs2 imm : Int) (g1 : fit rd false = true) (g2 : fit rs1 false = true) (g3 : fit rs2 false = true) (g4 : inSpan (lo 69) (hi 69) (st 69) imm = true) :
    asksF 69 115 0 b (encF 69 115 0 b rd rs1 rs2 imm) = true ∧ regIf false (encF 69 115 0 b rd rs1 rs2 imm) 7 = rd ∧ regIf false (encF 69 115 0 b rd rs1 rs2 imm) 15 = rs1 ∧ regIf false (encF 69 115 0 b rd rs1 rs2 imm) 20 = rs2 ∧ number (encF 69 115 0 b rd rs1 rs2 imm) 69 = imm := by
  rw [encF_E]
  refine ⟨?_, (fit_false g1).symm, (fit_false g2).symm, (fit_false g3).symm, ?_⟩
  · show ((((115 : Nat) : Int) == _) && (_ == _)) = true
    rw [field_E b hb]; simp
  · obtain ⟨s0, s1, s2⟩ := span_of g4
    rw [num_none _ 69 (by decide)]
    have : lo 69 = 0 := rfl
    have : hi 69 = 0 := rfl
    omega
theorem again_E (b : Nat) (x : BitVec 32) (h : asksF 69 115 0 b x = true) :
    fit (regIf false x 7) false = true ∧ fit (regIf false x 15) false = true ∧ fit (regIf false x 20) false = true ∧ inSpan (lo 69) (hi 69) (st 69) (number x 69) = true ∧ encF 69 115 0 b (regIf false x 7) (regIf false x 15) (regIf false x 20) (number x 69) = x := by
  have h' : ((((115 : Nat) : Int) == ((Wd.field x 0 7).toNat : Int)) && ((x.toNat : Int) == ((stemW 69 115 0 b).toNat : Int))) = true := h
  rw [Bool.and_eq_true, beq_nat, beq_nat] at h'
  refine ⟨fit_zero, fit_zero, fit_zero, by rw [num_none x 69 (by decide)]; rfl, ?_⟩
  rw [encF_E]; exact (BitVec.eq_of_toNat_eq h'.2).symm

theorem kind_facts (k : Nat) (h : k < 47) : is8 (kf k) ∧ ko k < 128 ∧ k3 k < 8 ∧ k7 k < 128 ∧ ((kf k = 85 ∨ kf k = 74) → k3 k = 0 ∧ k7 k = 0) ∧ ((kf k = 73 ∨ kf k = 66 ∨ kf k = 83) → k7 k = 0) ∧ (kf k = 69 → ko k = 115 ∧ k3 k = 0 ∧ k7 k ≤ 1) ∧ ko k % 4 = 3 := by
  revert k
  refine cases47 ?_ ?_ ?_ ?_ ?_ ?_ ?_ ?_ ?_ ?_ ?_ ?_ ?_ ?_ ?_ ?_ ?_ ?_ ?_ ?_ ?_ ?_ ?_ ?_ ?_ ?_ ?_ ?_ ?_ ?_ ?_ ?_ ?_ ?_ ?_ ?_ ?_ ?_ ?_ ?_ ?_ ?_ ?_ ?_ ?_ ?_ ?_
  all_goals (unfold is8; decide)

theorem frm_nat (k : Nat) : frm (k : Int) = kf k := by unfold frm; rw [if_pos (by omega), Int.toNat_natCast]
theorem enc_nat (k : Nat) (rd rs1 rs2 imm : Int) : enc (k : Int) rd rs1 rs2 imm = encF (kf k) (ko k) (k3 k) (k7 k) rd rs1 rs2 imm := by
  unfold enc encF stem; rw [frm_nat, Int.toNat_natCast]
theorem right_nat (k : Nat) (h : k < 47) (rd rs1 rs2 imm : Int) : right (k : Int) rd rs1 rs2 imm = (fit rd (hRd (kf k)) && fit rs1 (hRs1 (kf k)) && fit rs2 (hRs2 (kf k)) && inSpan (lo (kf k)) (hi (kf k)) (st (kf k)) imm) := by
  unfold right
  rw [frm_nat]
  have := (kind_facts k h).1
  have e : decide (kf k ≠ 0) = true := by unfold is8 at this; rw [decide_eq_true_eq]; omega
  rw [e, Bool.true_and]

theorem thereF (f o a b : Nat) (h8 : is8 f) (ho : o < 128) (ha : a < 8) (hb : b < 128) (hU : (f = 85 ∨ f = 74) → a = 0 ∧ b = 0) (hI : (f = 73 ∨ f = 66 ∨ f = 83) → b = 0) (hE : f = 69 → o = 115 ∧ a = 0 ∧ b ≤ 1)
    (rd rs1 rs2 imm : Int) (g1 : fit rd (hRd f) = true) (g2 : fit rs1 (hRs1 f) = true) (g3 : fit rs2 (hRs2 f) = true) (g4 : inSpan (lo f) (hi f) (st f) imm = true) :
    asksF f o a b (encF f o a b rd rs1 rs2 imm) = true ∧ regIf (hRd f) (encF f o a b rd rs1 rs2 imm) 7 = rd ∧ regIf (hRs1 f) (encF f o a b rd rs1 rs2 imm) 15 = rs1 ∧ regIf (hRs2 f) (encF f o a b rd rs1 rs2 imm) 20 = rs2 ∧ number (encF f o a b rd rs1 rs2 imm) f = imm := by
  rcases h8 with rfl | rfl | rfl | rfl | rfl | rfl | rfl | rfl
  · obtain ⟨rfl, rfl⟩ := hU (by decide); exact there_U o ho rd rs1 rs2 imm g1 g2 g3 g4
  · obtain ⟨rfl, rfl⟩ := hU (by decide); exact there_J o ho rd rs1 rs2 imm g1 g2 g3 g4
  · obtain rfl := hI (by decide); exact there_I o a ho ha rd rs1 rs2 imm g1 g2 g3 g4
  · exact there_H o a b ho ha hb rd rs1 rs2 imm g1 g2 g3 g4
  · obtain rfl := hI (by decide); exact there_B o a ho ha rd rs1 rs2 imm g1 g2 g3 g4
  · obtain rfl := hI (by decide); exact there_S o a ho ha rd rs1 rs2 imm g1 g2 g3 g4
  · exact there_R o a b ho ha hb rd rs1 rs2 imm g1 g2 g3 g4
  · obtain ⟨rfl, rfl, hb1⟩ := hE rfl; exact there_E b hb1 rd rs1 rs2 imm g1 g2 g3 g4
theorem againF (f o a b : Nat) (h8 : is8 f) (ho : o < 128) (ha : a < 8) (hb : b < 128) (hU : (f = 85 ∨ f = 74) → a = 0 ∧ b = 0) (hI : (f = 73 ∨ f = 66 ∨ f = 83) → b = 0) (hE : f = 69 → o = 115 ∧ a = 0 ∧ b ≤ 1)
    (x : BitVec 32) (h : asksF f o a b x = true) :
    fit (regIf (hRd f) x 7) (hRd f) = true ∧ fit (regIf (hRs1 f) x 15) (hRs1 f) = true ∧ fit (regIf (hRs2 f) x 20) (hRs2 f) = true ∧ inSpan (lo f) (hi f) (st f) (number x f) = true ∧ encF f o a b (regIf (hRd f) x 7) (regIf (hRs1 f) x 15) (regIf (hRs2 f) x 20) (number x f) = x := by
  rcases h8 with rfl | rfl | rfl | rfl | rfl | rfl | rfl | rfl
  · obtain ⟨rfl, rfl⟩ := hU (by decide); exact again_U o ho x h
  · obtain ⟨rfl, rfl⟩ := hU (by decide); exact again_J o ho x h
  · obtain rfl := hI (by decide); exact again_I o a ho ha x h
  · exact again_H o a b ho ha hb x h
  · obtain rfl := hI (by decide); exact again_B o a ho ha x h
  · obtain rfl := hI (by decide); exact again_S o a ho ha x h
  · exact again_R o a b ho ha hb x h
  · obtain ⟨rfl, rfl, _⟩ := hE rfl; exact again_E b x h

/-- What is encoded is decoded as it was. -/
theorem there (k : Nat) (h : k < 47) (rd rs1 rs2 imm : Int) (hr : right (k : Int) rd rs1 rs2 imm = true) :
    asked (enc (k : Int) rd rs1 rs2 imm) k = true ∧ regIf (hRd (kf k)) (enc (k : Int) rd rs1 rs2 imm) 7 = rd ∧ regIf (hRs1 (kf k)) (enc (k : Int) rd rs1 rs2 imm) 15 = rs1 ∧ regIf (hRs2 (kf k)) (enc (k : Int) rd rs1 rs2 imm) 20 = rs2 ∧ number (enc (k : Int) rd rs1 rs2 imm) (kf k) = imm := by
  rw [right_nat k h, Bool.and_eq_true, Bool.and_eq_true, Bool.and_eq_true] at hr
  obtain ⟨⟨⟨g1, g2⟩, g3⟩, g4⟩ := hr
  obtain ⟨c1, c2, c3, c4, c5, c6, c7, _⟩ := kind_facts k h
  rw [enc_nat]
  exact thereF _ _ _ _ c1 c2 c3 c4 c5 c6 c7 rd rs1 rs2 imm g1 g2 g3 g4
/-- What is decoded may be, and is encoded to the same word. -/
theorem again (k : Nat) (h : k < 47) (x : BitVec 32) (ha : asked x k = true) :
    right (k : Int) (regIf (hRd (kf k)) x 7) (regIf (hRs1 (kf k)) x 15) (regIf (hRs2 (kf k)) x 20) (number x (kf k)) = true ∧ enc (k : Int) (regIf (hRd (kf k)) x 7) (regIf (hRs1 (kf k)) x 15) (regIf (hRs2 (kf k)) x 20) (number x (kf k)) = x := by
  obtain ⟨c1, c2, c3, c4, c5, c6, c7, _⟩ := kind_facts k h
  obtain ⟨g1, g2, g3, g4, e⟩ := againF _ _ _ _ c1 c2 c3 c4 c5 c6 c7 x ha
  rw [enc_nat, right_nat k h, g1, g2, g3, g4]
  exact ⟨rfl, e⟩

/-- The bits that tell a kind: how many of op, f3, f7 (3: the whole word). -/
def cls (f : Nat) : Nat := if f = 85 ∨ f = 74 then 0 else if f = 73 ∨ f = 66 ∨ f = 83 then 1 else if f = 72 ∨ f = 82 then 2 else 3
theorem asksF_op {f o a b : Nat} {x : BitVec 32} (h : asksF f o a b x = true) : o = (Wd.field x 0 7).toNat := by
  unfold asksF at h; rw [Bool.and_eq_true] at h; exact beq_nat.1 h.1
theorem asksF_f3 {f o a b : Nat} {x : BitVec 32} (h8 : is8 f) (hc : cls f = 1 ∨ cls f = 2) (h : asksF f o a b x = true) : a = (Wd.field x 12 3).toNat := by
  unfold asksF at h; rw [Bool.and_eq_true] at h
  have h2 := h.2
  rcases h8 with rfl | rfl | rfl | rfl | rfl | rfl | rfl | rfl
  · exact absurd hc (by decide)
  · exact absurd hc (by decide)
  · exact (beq_nat.1 h2).symm
  · have h3 : ((((Wd.field x 12 3).toNat : Int) == (a : Int)) && (((Wd.field x 25 7).toNat : Int) == (b : Int))) = true := h2
    rw [Bool.and_eq_true] at h3; exact (beq_nat.1 h3.1).symm
  · exact (beq_nat.1 h2).symm
  · exact (beq_nat.1 h2).symm
  · have h3 : ((((Wd.field x 12 3).toNat : Int) == (a : Int)) && (((Wd.field x 25 7).toNat : Int) == (b : Int))) = true := h2
    rw [Bool.and_eq_true] at h3; exact (beq_nat.1 h3.1).symm
  · exact absurd hc (by decide)
theorem asksF_f7 {f o a b : Nat} {x : BitVec 32} (h8 : is8 f) (hc : cls f = 2) (h : asksF f o a b x = true) : b = (Wd.field x 25 7).toNat := by
  unfold asksF at h; rw [Bool.and_eq_true] at h
  have h2 := h.2
  rcases h8 with rfl | rfl | rfl | rfl | rfl | rfl | rfl | rfl
  · exact absurd hc (by decide)
  · exact absurd hc (by decide)
  · exact absurd hc (by decide)
  · have h3 : ((((Wd.field x 12 3).toNat : Int) == (a : Int)) && (((Wd.field x 25 7).toNat : Int) == (b : Int))) = true := h2
    rw [Bool.and_eq_true] at h3; exact (beq_nat.1 h3.2).symm
  · exact absurd hc (by decide)
  · exact absurd hc (by decide)
  · have h3 : ((((Wd.field x 12 3).toNat : Int) == (a : Int)) && (((Wd.field x 25 7).toNat : Int) == (b : Int))) = true := h2
    rw [Bool.and_eq_true] at h3; exact (beq_nat.1 h3.2).symm
  · exact absurd hc (by decide)
def parts (j k : Nat) : Bool := decide (j = k) || decide (ko j ≠ ko k) || (decide (cls (kf j) ≠ 0 ∧ cls (kf j) ≠ 3 ∧ cls (kf k) ≠ 0 ∧ cls (kf k) ≠ 3) && decide (k3 j ≠ k3 k)) || (decide (cls (kf j) = 2 ∧ cls (kf k) = 2) && decide (k7 j ≠ k7 k)) || (decide (kf j = 69 ∧ kf k = 69))
theorem parts_all : ∀ j, j < 47 → ∀ k, k < 47 → parts j k = true := by decide +kernel
theorem E_two (x : BitVec 32) (j k : Nat) (hj : j < 47) (hk : k < 47) (fj : kf j = 69) (fk : kf k = 69) (a : asked x j = true) (b : asked x k = true) : k7 j = k7 k := by
  obtain ⟨o1, a1, b1⟩ := (kind_facts j hj).2.2.2.2.2.2.1 fj
  obtain ⟨o2, a2, b2⟩ := (kind_facts k hk).2.2.2.2.2.2.1 fk
  unfold asked at a b
  rw [fj, o1, a1] at a
  rw [fk, o2, a2] at b
  have h1 : ((((115 : Nat) : Int) == ((Wd.field x 0 7).toNat : Int)) && ((x.toNat : Int) == ((stemW 69 115 0 (k7 j)).toNat : Int))) = true := a
  have h2 : ((((115 : Nat) : Int) == ((Wd.field x 0 7).toNat : Int)) && ((x.toNat : Int) == ((stemW 69 115 0 (k7 k)).toNat : Int))) = true := b
  rw [Bool.and_eq_true, beq_nat, beq_nat, stem_nat_E 0 _ (by omega) (by omega)] at h1 h2
  omega
theorem E_k7 : ∀ j, j < 47 → ∀ k, k < 47 → kf j = 69 → kf k = 69 → k7 j = k7 k → j = k := by decide +kernel
/-- A word has one kind at most. -/
theorem asked_one (x : BitVec 32) (j k : Nat) (hj : j < 47) (hk : k < 47) (a : asked x j = true) (b : asked x k = true) : j = k := by
  have p := parts_all j hj k hk
  unfold parts at p
  simp only [Bool.or_eq_true, Bool.and_eq_true, decide_eq_true_eq] at p
  have i8j := (kind_facts j hj).1
  have i8k := (kind_facts k hk).1
  have cl : ∀ f, cls f = 0 ∨ cls f = 1 ∨ cls f = 2 ∨ cls f = 3 := fun f => by unfold cls; (repeat' split) <;> simp
  rcases p with (((p | p) | ⟨⟨p1, p2, p3, p4⟩, p⟩) | ⟨⟨p1, p2⟩, p⟩) | ⟨p1, p2⟩
  · exact p
  · exact absurd ((asksF_op a).trans (asksF_op b).symm) p
  · have c1 := cl (kf j)
    have c2 := cl (kf k)
    exact absurd ((asksF_f3 i8j (by omega) a).trans (asksF_f3 i8k (by omega) b).symm) p
  · exact absurd ((asksF_f7 i8j p1 a).trans (asksF_f7 i8k p2 b).symm) p
  · exact E_k7 j hj k hk p1 p2 (E_two x j k hj hk p1 p2 a b)
end Ip
end Go.Proofs.Ythlefedljgmmfaa
