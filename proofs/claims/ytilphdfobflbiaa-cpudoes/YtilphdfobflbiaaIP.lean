/-
  What the document says of instructions, as plain functions on numbers and words: forms, what they have, which numbers they can tell, and the words. No program in sight.
-/
import Derived.Test.YtilphdfobflbiaaM2
namespace Go.Proofs.Ytilphdfobflbiaa
open Go.RowKit
namespace Ip

/-- A kind's form, and the bits that tell it, by its number (0 where there is none). -/
def kf (k : Nat) : Nat := ([85, 85, 74, 73, 66, 66, 66, 66, 66, 66, 73, 73, 73, 73, 73, 83, 83, 83, 73, 73, 73, 73, 73, 73, 72, 72, 72, 82, 82, 82, 82, 82, 82, 82, 82, 82, 82, 82, 82, 82, 82, 82, 82, 82, 82, 69, 69] : List Nat).getD k 0
def ko (k : Nat) : Nat := ([55, 23, 111, 103, 99, 99, 99, 99, 99, 99, 3, 3, 3, 3, 3, 35, 35, 35, 19, 19, 19, 19, 19, 19, 19, 19, 19, 51, 51, 51, 51, 51, 51, 51, 51, 51, 51, 51, 51, 51, 51, 51, 51, 51, 51, 115, 115] : List Nat).getD k 0
def k3 (k : Nat) : Nat := ([0, 0, 0, 0, 0, 1, 4, 5, 6, 7, 0, 1, 2, 4, 5, 0, 1, 2, 0, 2, 3, 4, 6, 7, 1, 5, 5, 0, 0, 1, 2, 3, 4, 5, 5, 6, 7, 0, 1, 2, 3, 4, 5, 6, 7, 0, 0] : List Nat).getD k 0
def k7 (k : Nat) : Nat := ([0, 0, 0, 0, 0, 0, 0, 0, 0, 0, 0, 0, 0, 0, 0, 0, 0, 0, 0, 0, 0, 0, 0, 0, 0, 0, 32, 0, 32, 0, 0, 0, 0, 0, 32, 0, 0, 1, 1, 1, 1, 1, 1, 1, 1, 0, 1] : List Nat).getD k 0

theorem cases47 {P : Nat → Prop} (h0 : P 0) (h1 : P 1) (h2 : P 2) (h3 : P 3) (h4 : P 4) (h5 : P 5) (h6 : P 6) (h7 : P 7) (h8 : P 8) (h9 : P 9) (h10 : P 10) (h11 : P 11) (h12 : P 12) (h13 : P 13) (h14 : P 14) (h15 : P 15) (h16 : P 16) (h17 : P 17) (h18 : P 18) (h19 : P 19) (h20 : P 20) (h21 : P 21) (h22 : P 22) (h23 : P 23) (h24 : P 24) (h25 : P 25) (h26 : P 26) (h27 : P 27) (h28 : P 28) (h29 : P 29) (h30 : P 30) (h31 : P 31) (h32 : P 32) (h33 : P 33) (h34 : P 34) (h35 : P 35) (h36 : P 36) (h37 : P 37) (h38 : P 38) (h39 : P 39) (h40 : P 40) (h41 : P 41) (h42 : P 42) (h43 : P 43) (h44 : P 44) (h45 : P 45) (h46 : P 46) : ∀ k, k < 47 → P k
  | 0, _ => h0
  | 1, _ => h1
  | 2, _ => h2
  | 3, _ => h3
  | 4, _ => h4
  | 5, _ => h5
  | 6, _ => h6
  | 7, _ => h7
  | 8, _ => h8
  | 9, _ => h9
  | 10, _ => h10
  | 11, _ => h11
  | 12, _ => h12
  | 13, _ => h13
  | 14, _ => h14
  | 15, _ => h15
  | 16, _ => h16
  | 17, _ => h17
  | 18, _ => h18
  | 19, _ => h19
  | 20, _ => h20
  | 21, _ => h21
  | 22, _ => h22
  | 23, _ => h23
  | 24, _ => h24
  | 25, _ => h25
  | 26, _ => h26
  | 27, _ => h27
  | 28, _ => h28
  | 29, _ => h29
  | 30, _ => h30
  | 31, _ => h31
  | 32, _ => h32
  | 33, _ => h33
  | 34, _ => h34
  | 35, _ => h35
  | 36, _ => h36
  | 37, _ => h37
  | 38, _ => h38
  | 39, _ => h39
  | 40, _ => h40
  | 41, _ => h41
  | 42, _ => h42
  | 43, _ => h43
  | 44, _ => h44
  | 45, _ => h45
  | 46, _ => h46
  | n + 47, h => absurd h (by omega)
/-- The letters of the eight forms. -/
def is8 (f : Nat) : Prop := f = 85 ∨ f = 74 ∨ f = 73 ∨ f = 72 ∨ f = 66 ∨ f = 83 ∨ f = 82 ∨ f = 69
def frm (op : Int) : Nat := if 0 ≤ op then kf op.toNat else 0
def hRd (f : Nat) : Bool := decide (f = 85 ∨ f = 74 ∨ f = 73 ∨ f = 72 ∨ f = 82)
def hRs1 (f : Nat) : Bool := decide (f = 73 ∨ f = 72 ∨ f = 66 ∨ f = 83 ∨ f = 82)
def hRs2 (f : Nat) : Bool := decide (f = 66 ∨ f = 83 ∨ f = 82)
def fit (r : Int) (b : Bool) : Bool := if b = true then decide (0 ≤ r ∧ r ≤ 31) else decide (r = 0)
def lo (f : Nat) : Int := if f = 73 ∨ f = 83 then -2048 else if f = 66 then -4096 else if f = 74 then -1048576 else 0
def hi (f : Nat) : Int := if f = 73 ∨ f = 83 then 2047 else if f = 72 then 31 else if f = 85 then 1048575 else if f = 66 then 4094 else if f = 74 then 1048574 else 0
def st (f : Nat) : Int := if f = 66 ∨ f = 74 then 2 else 1
def inSpan (a b c n : Int) : Bool := decide (a ≤ n ∧ n ≤ b ∧ n % c = 0)
def right (op rd rs1 rs2 imm : Int) : Bool :=
  decide (frm op ≠ 0) && fit rd (hRd (frm op)) && fit rs1 (hRs1 (frm op)) && fit rs2 (hRs2 (frm op)) && inSpan (lo (frm op)) (hi (frm op)) (st (frm op)) imm
def sb (f : Nat) : Int := if f = 73 ∨ f = 83 then 12 else if f = 66 then 13 else if f = 74 then 21 else 0
/-- Where a form's number lies: the word's bit, how many, the number's bit, of each of four pieces. -/
def pcs (f : Nat) : List Int := if f = 73 then [20, 12, 0, 0, 0, 0, 0, 0, 0, 0, 0, 0] else if f = 83 then [7, 5, 0, 25, 7, 5, 0, 0, 0, 0, 0, 0] else if f = 72 then [20, 5, 0, 0, 0, 0, 0, 0, 0, 0, 0, 0]
  else if f = 85 then [12, 20, 0, 0, 0, 0, 0, 0, 0, 0, 0, 0] else if f = 66 then [31, 1, 12, 7, 1, 11, 25, 6, 5, 8, 4, 1] else if f = 74 then [31, 1, 20, 12, 8, 12, 20, 1, 11, 21, 10, 1]
  else [0, 0, 0, 0, 0, 0, 0, 0, 0, 0, 0, 0]
def pa (f i : Nat) : Int := (pcs f).getD (3 * i) 0
def pn (f i : Nat) : Int := (pcs f).getD (3 * i + 1) 0
def pt (f i : Nat) : Int := (pcs f).getD (3 * i + 2) 0
/-- The number that the first i pieces tell. -/
def numV (w : BitVec 32) (f : Nat) : Nat → BitVec 32
  | 0 => (BitVec.ofNat 32 0)
  | i + 1 => Wd.put (numV w f i) (pt f i) (pn f i) (Wd.field w (pa f i) (pn f i))
def number (w : BitVec 32) (f : Nat) : Int := (Wd.sign (numV w f 4) (sb f)).toInt
def wnV (w : BitVec 32) (f : Nat) (n : Int) : Nat → BitVec 32
  | 0 => w
  | i + 1 => Wd.put (wnV w f n i) (pa f i) (pn f i) (Wd.field (BitVec.ofInt 32 n) (pt f i) (pn f i))
def high (f : Nat) : Int := if f = 69 then 20 else 25
def stemW (f o a b : Nat) : BitVec 32 := Wd.put (Wd.put (BitVec.ofNat 32 o) 12 3 (BitVec.ofNat 32 a)) (high f) (32 - high f) (BitVec.ofNat 32 b)
def stem (k : Nat) : BitVec 32 := stemW (kf k) (ko k) (k3 k) (k7 k)
def told (f o a b : Nat) (x : BitVec 32) (p q : Int) : Bool :=
  if f = 85 ∨ f = 74 then true else if f = 73 ∨ f = 66 ∨ f = 83 then p == a else if f = 72 ∨ f = 82 then p == a && q == b else (x.toNat : Int) == ((stemW f o a b).toNat : Int)
def putIf (c : Bool) (w : BitVec 32) (a : Int) (r : Int) : BitVec 32 := if c = true then Wd.put w a 5 (BitVec.ofInt 32 r) else w
/-- An instruction's word. -/
def enc (op rd rs1 rs2 imm : Int) : BitVec 32 :=
  putIf (hRs2 (frm op)) (putIf (hRs1 (frm op)) (putIf (hRd (frm op)) (wnV (stem op.toNat) (frm op) imm 4) 7 rd) 15 rs1) 20 rs2
/-- The bits that tell a form's kinds. -/
def msk (f : Nat) : BitVec 32 := if f = 85 ∨ f = 74 then (BitVec.ofNat 32 127) else if f = 73 ∨ f = 66 ∨ f = 83 then (BitVec.ofNat 32 28799) else if f = 72 ∨ f = 82 then (BitVec.ofNat 32 4261441663) else (BitVec.ofNat 32 4294967295)
def hit (k : Nat) (w : BitVec 32) : Bool := (w &&& msk (kf k)) == stem k
def regIf (c : Bool) (w : BitVec 32) (a : Int) : Int := if c = true then ((Wd.field w a 5).toNat : Int) else 0

theorem is8_kf (k : Nat) (h : k < 47) : is8 (kf k) := by
  revert k
  refine cases47 ?_ ?_ ?_ ?_ ?_ ?_ ?_ ?_ ?_ ?_ ?_ ?_ ?_ ?_ ?_ ?_ ?_ ?_ ?_ ?_ ?_ ?_ ?_ ?_ ?_ ?_ ?_ ?_ ?_ ?_ ?_ ?_ ?_ ?_ ?_ ?_ ?_ ?_ ?_ ?_ ?_ ?_ ?_ ?_ ?_ ?_ ?_
  all_goals (unfold is8 kf; decide)
theorem kf_lt (k : Nat) (h : k < 47) : kf k < 256 := by
  have := is8_kf k h; unfold is8 at this; omega
theorem getD_lt (l : List Nat) (m : Nat) (h : ∀ x ∈ l, x < m) (hm : 0 < m) (k : Nat) : l.getD k 0 < m := by
  rw [List.getD_eq_getElem?_getD]
  cases e : l[k]? with
  | none => simpa using hm
  | some y => exact h y (List.mem_of_getElem? e)
theorem ko_lt (k : Nat) : ko k < 256 := getD_lt _ _ (by decide) (by decide) k
theorem k3_lt (k : Nat) : k3 k < 256 := getD_lt _ _ (by decide) (by decide) k
theorem k7_lt (k : Nat) : k7 k < 256 := getD_lt _ _ (by decide) (by decide) k
theorem field_lt (x : BitVec 32) (a n : Int) (h : Wd.within a n = true) : ((Wd.field x a n).toNat : Int) < 2 ^ n.toNat := by
  have hb := Wd.of_within h
  unfold Wd.field; rw [if_pos h, BitVec.toNat_and, Wd.mask_toNat _ (by omega), Nat.and_two_pow_sub_one_eq_mod]
  have : (x >>> a.toNat).toNat % 2 ^ n.toNat < 2 ^ n.toNat := Nat.mod_lt _ (Nat.pow_pos (by decide))
  exact_mod_cast this
theorem kf_zero (k : Nat) (h : 47 ≤ k) : kf k = 0 := by
  unfold kf; rw [List.getD_eq_getElem?_getD, List.getElem?_eq_none (by simpa using h)]; rfl
end Ip
end Go.Proofs.Ytilphdfobflbiaa
