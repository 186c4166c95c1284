/-
  Plain facts on words of 32 bits: what the walk's whole numbers are as bit vectors. No program in sight.
  Contracts of package word's functions: what each call answers, of whatever words; the world stays as it is.
  Contracts of word.Do, word.Field, word.Sign and word.Put: what each call answers, of whatever arguments; the world stays as it is.
  Contracts of the statements' own helpers 'does' and 'fixed': the first answers what a reckoning comes to, the second true; the world stays as it is but for draws.
  The contracts of package word that package inst leans on: those of the first stage.
  Plain facts on the fields of a word, bit by bit. No program in sight.
-/
import Derived.WalkKit
import Derived.Laws.BitsAllLaws
import Derived.Test.YtcffpmicencfpabGreatRows
import Derived.WalkLawsBesides
import Derived.Deep.QuietTactic
import Derived.BigQuiet

namespace Go.Proofs.YtcffpmicencfpabGreat
open Go.RowKit

namespace Wd

def mask (n : Nat) : BitVec 32 := BitVec.ofNat 32 (2 ^ n - 1)
def within (a n : Int) : Bool := decide (0 ≤ a ∧ a ≤ 31 ∧ 1 ≤ n ∧ n ≤ 32 ∧ a + n ≤ 32)
def field (w : BitVec 32) (a n : Int) : BitVec 32 := if within a n = true then (w >>> a.toNat) &&& mask n.toNat else (BitVec.ofNat 32 0)
def sign (w : BitVec 32) (n : Int) : BitVec 32 :=
  if 1 ≤ n ∧ n ≤ 31 then (if w.getLsbD (n.toNat - 1) = true then w ||| ~~~ mask n.toNat else w &&& mask n.toNat) else w
def put (w : BitVec 32) (a n : Int) (v : BitVec 32) : BitVec 32 :=
  if within a n = true then (w &&& ~~~ (mask n.toNat <<< a.toNat)) ||| ((v &&& mask n.toNat) <<< a.toNat) else w
def sh (b : BitVec 32) : Nat := b.toNat % 32
def one (p : Bool) : BitVec 32 := if p = true then (BitVec.ofNat 32 1) else (BitVec.ofNat 32 0)
def known (op : Int) : Bool := decide (27 ≤ op ∧ op ≤ 44)
def quot (a b : BitVec 32) : BitVec 32 := if b = (BitVec.ofNat 32 0) then (BitVec.ofNat 32 4294967295) else BitVec.ofInt 32 (a.toInt.tdiv b.toInt)
def rest (a b : BitVec 32) : BitVec 32 := if b = (BitVec.ofNat 32 0) then a else BitVec.ofInt 32 (a.toInt.tmod b.toInt)
def quotu (a b : BitVec 32) : BitVec 32 := if b = (BitVec.ofNat 32 0) then (BitVec.ofNat 32 4294967295) else a / b
def restu (a b : BitVec 32) : BitVec 32 := if b = (BitVec.ofNat 32 0) then a else a % b
def hi (p : Int) : BitVec 32 := BitVec.ofInt 32 (p / 4294967296)
def run (op : Int) (a b : BitVec 32) : BitVec 32 :=
  if op = 27 then a + b else if op = 28 then a - b else if op = 29 then a <<< sh b else if op = 30 then one (a.slt b)
  else if op = 31 then one (a.ult b) else if op = 32 then a ^^^ b else if op = 33 then a >>> sh b else if op = 34 then a.sshiftRight (sh b)
  else if op = 35 then a ||| b else if op = 36 then a &&& b else if op = 37 then a * b
  else if op = 38 then hi (a.toInt * b.toInt) else if op = 39 then hi (a.toInt * b.toNat)
  else if op = 40 then BitVec.ofNat 32 (a.toNat * b.toNat / 4294967296)
  else if op = 41 then quot a b else if op = 42 then quotu a b else if op = 43 then rest a b else if op = 44 then restu a b else (BitVec.ofNat 32 0)
def err (op : Int) : Int := if known op = true then 0 else 1
def does (op : Int) (a b : BitVec 32) : BitVec 32 := if known op = true then run op a b else (BitVec.ofNat 32 1515870810)

theorem lt (x : BitVec 32) : (x.toNat : Int) < 4294967296 := by have := x.isLt; omega
theorem ge (x : BitVec 32) : (0 : Int) ≤ x.toNat := by omega

theorem of_int (a : Int) (h0 : 0 ≤ a) (h1 : a ≤ 4294967295) : ∃ x : BitVec 32, a = (x.toNat : Int) := by
  refine ⟨BitVec.ofNat 32 a.toNat, ?_⟩
  rw [BitVec.toNat_ofNat, Nat.mod_eq_of_lt (by omega)]; omega

theorem and_ (x y : BitVec 32) : bits .and .u32 (x.toNat : Int) (y.toNat : Int) = ((x &&& y).toNat : Int) := by
  rw [u32_and_nat _ _ x.isLt y.isLt, BitVec.toNat_and]
theorem or_ (x y : BitVec 32) : bits .or .u32 (x.toNat : Int) (y.toNat : Int) = ((x ||| y).toNat : Int) := by
  rw [u32_or_nat _ _ x.isLt y.isLt, BitVec.toNat_or]
theorem xor_ (x y : BitVec 32) : bits .xor .u32 (x.toNat : Int) (y.toNat : Int) = ((x ^^^ y).toNat : Int) := by
  rw [u32_xor_nat _ _ x.isLt y.isLt, BitVec.toNat_xor]
theorem andNot_ (x y : BitVec 32) : bits .andNot .u32 (x.toNat : Int) (y.toNat : Int) = ((x &&& ~~~ y).toNat : Int) := by
  rw [u32_andNot_nat _ _ x.isLt y.isLt, BitVec.toNat_and, BitVec.toNat_not]
theorem add_ (x y : BitVec 32) : ((x.toNat : Int) + (y.toNat : Int)) % 4294967296 = ((x + y).toNat : Int) := by
  rw [BitVec.toNat_add]; omega
theorem sub_ (x y : BitVec 32) : ((x.toNat : Int) - (y.toNat : Int)) % 4294967296 = ((x - y).toNat : Int) := by
  rw [BitVec.toNat_sub]; have := x.isLt; have := y.isLt; omega
theorem mul_ (x y : BitVec 32) : ((x.toNat : Int) * (y.toNat : Int)) % 4294967296 = ((x * y).toNat : Int) := by
  rw [BitVec.toNat_mul, Int.natCast_emod, Int.natCast_mul]; rfl
theorem shl_ (x : BitVec 32) (k : Nat) : ((x.toNat : Int) * 2 ^ k) % 4294967296 = ((x <<< k).toNat : Int) := by
  rw [BitVec.toNat_shiftLeft, Nat.shiftLeft_eq, Int.natCast_emod, Int.natCast_mul, Int.natCast_pow]; rfl
theorem shr_ (x : BitVec 32) (k : Nat) : (x.toNat : Int) / 2 ^ k = ((x >>> k).toNat : Int) := by
  rw [BitVec.toNat_ushiftRight, Nat.shiftRight_eq_div_pow, Int.natCast_ediv, Int.natCast_pow]; rfl
theorem toInt_ (x : BitVec 32) : wrap32 (x.toNat : Int) = x.toInt := by
  unfold wrap32; rw [BitVec.toInt_eq_toNat_cond]; have := x.isLt; split <;> omega
theorem toInt_lo (x : BitVec 32) : -2147483648 ≤ x.toInt := by have := @BitVec.le_toInt 32 x; omega
theorem toInt_hi (x : BitVec 32) : x.toInt ≤ 2147483647 := by have := @BitVec.toInt_lt 32 x; omega
theorem cut_ (a : Int) : a % 4294967296 = ((BitVec.ofInt 32 a).toNat : Int) := by
  rw [BitVec.toNat_ofInt]; omega
theorem sar_ (x : BitVec 32) (k : Nat) : (x.toInt / 2 ^ k) % 4294967296 = ((x.sshiftRight k).toNat : Int) := by
  rw [cut_]
  congr 2
  rw [← BitVec.ofInt_toInt (x := x.sshiftRight k), BitVec.toInt_sshiftRight, Int.shiftRight_eq_div_pow]; rfl
theorem slt_ (x y : BitVec 32) : decide (x.toInt < y.toInt) = x.slt y := rfl
theorem ult_ (x y : BitVec 32) : decide ((x.toNat : Int) < (y.toNat : Int)) = x.ult y := by
  rw [BitVec.ult_eq_decide]; simp
theorem prod_in (a b : BitVec 32) : -9223372036854775808 ≤ a.toInt * b.toInt ∧ a.toInt * b.toInt ≤ 9223372036854775807 := by
  have h1 := toInt_lo a; have h2 := toInt_hi a; have h3 := toInt_lo b; have h4 := toInt_hi b
  have k : (a.toInt * b.toInt).natAbs ≤ 2147483648 * 2147483648 := by
    rw [Int.natAbs_mul]; exact Nat.mul_le_mul (by omega) (by omega)
  omega
theorem prodsu_in (a b : BitVec 32) : -9223372036854775808 ≤ a.toInt * b.toNat ∧ a.toInt * b.toNat ≤ 9223372036854775807 := by
  have h1 := toInt_lo a; have h2 := toInt_hi a; have h4 := b.isLt
  have k : (a.toInt * b.toNat).natAbs ≤ 2147483648 * 4294967295 := by
    rw [Int.natAbs_mul]; exact Nat.mul_le_mul (by omega) (by omega)
  omega
theorem produu_in (a b : BitVec 32) : (0 : Int) ≤ (a.toNat : Int) * b.toNat ∧ (a.toNat : Int) * b.toNat ≤ 18446744073709551615 := by
  have h3 := a.isLt; have h4 := b.isLt
  have k : a.toNat * b.toNat ≤ 4294967295 * 4294967295 := Nat.mul_le_mul (by omega) (by omega)
  rw [← Int.natCast_mul]
  omega
theorem hi_uu (a b : BitVec 32) : ((a.toNat : Int) * b.toNat) / 4294967296 = ((BitVec.ofNat 32 (a.toNat * b.toNat / 4294967296)).toNat : Int) := by
  have h3 := a.isLt; have h4 := b.isLt
  have k : a.toNat * b.toNat ≤ 4294967295 * 4294967295 := Nat.mul_le_mul (by omega) (by omega)
  rw [BitVec.toNat_ofNat, ← Int.natCast_mul]
  omega
theorem mask_toNat (n : Nat) (h : n ≤ 32) : (mask n).toNat = 2 ^ n - 1 := by
  unfold mask; rw [BitVec.toNat_ofNat]
  have : 2 ^ n ≤ 2 ^ 32 := Nat.pow_le_pow_right (by omega) h
  exact Nat.mod_eq_of_lt (by omega)
theorem mask_get (n i : Nat) (hi : i < 32) : (mask n).getLsbD i = decide (i < n) := by
  unfold mask
  rw [BitVec.getLsbD_ofNat, Nat.testBit_two_pow_sub_one]; simp [hi]
theorem mask_succ (n : Nat) : (mask n <<< 1) ||| (BitVec.ofNat 32 1) = mask (n + 1) := by
  apply BitVec.eq_of_getLsbD_eq
  intro i hi
  rw [BitVec.getLsbD_or, BitVec.getLsbD_shiftLeft, mask_get _ _ hi]
  by_cases h : i = 0
  · subst h; simp
  · have h1 : ¬ i < 1 := by omega
    rw [mask_get _ _ (by omega)]
    have h2 : ((BitVec.ofNat 32 1)).getLsbD i = false := by
      rw [BitVec.getLsbD_ofNat]
      have : Nat.testBit 1 i = false := Nat.testBit_lt_two_pow (by
        have : 2 ^ 1 ≤ 2 ^ i := Nat.pow_le_pow_right (by omega) (by omega)
        omega)
      simp [this]
    have e : (i - 1 < n) ↔ (i < n + 1) := by omega
    rw [h2]
    simp [hi, h1, e]
theorem mask_step (k : Nat) : bits .or .u32 (((mask k).toNat : Int) * 2 % 4294967296) 1 = ((mask (k + 1)).toNat : Int) := by
  have e := shl_ (mask k) 1
  rw [show (2 : Int) ^ 1 = 2 from rfl] at e
  rw [e, ← mask_succ, ← or_]; rfl
theorem and31 (b : BitVec 32) : bits .and .u32 (b.toNat : Int) 31 = (sh b : Int) := by
  have e : (31 : Int) = (((BitVec.ofNat 32 31)).toNat : Int) := rfl
  rw [e, and_, BitVec.toNat_and]
  have : b.toNat &&& ((BitVec.ofNat 32 31)).toNat = b.toNat % 2 ^ 5 := Nat.and_two_pow_sub_one_eq_mod b.toNat 5
  rw [this]; rfl
theorem sh_lt (b : BitVec 32) : sh b < 32 := Nat.mod_lt _ (by decide)
theorem eq0 (b : BitVec 32) (h : ((b.toNat : Int) == 0) = true) : b = (BitVec.ofNat 32 0) := by
  apply BitVec.eq_of_toNat_eq; have : (b.toNat : Int) = 0 := by simpa using h
  simp; omega
theorem ne0 (b : BitVec 32) (h : ((b.toNat : Int) == 0) = false) : b ≠ (BitVec.ofNat 32 0) := by
  intro e; subst e; simp at h
theorem toInt_ne (b : BitVec 32) (h : b ≠ (BitVec.ofNat 32 0)) : b.toInt ≠ 0 := by
  intro e; apply h; apply BitVec.eq_of_toInt_eq; simpa using e
theorem tdiv_in (a b : BitVec 32) : -2147483648 ≤ a.toInt.tdiv b.toInt ∧ a.toInt.tdiv b.toInt ≤ 2147483648 := by
  have h1 := toInt_lo a; have h2 := toInt_hi a
  have := Int.natAbs_tdiv a.toInt b.toInt
  have h : a.toInt.natAbs / b.toInt.natAbs ≤ a.toInt.natAbs := Nat.div_le_self _ _
  have h3 : (a.toInt.tdiv b.toInt).natAbs ≤ 2147483648 := by rw [this]; exact Nat.le_trans h (by omega)
  omega
theorem divu_ (a b : BitVec 32) : (a.toNat : Int) / (b.toNat : Int) = ((a / b).toNat : Int) := by
  rw [BitVec.toNat_udiv, Int.natCast_ediv]
theorem modu_ (a b : BitVec 32) : (a.toNat : Int) % (b.toNat : Int) = ((a % b).toNat : Int) := by
  rw [BitVec.toNat_umod, Int.natCast_emod]
theorem field_bit (x : BitVec 32) (n : Int) (h1 : 1 ≤ n) (h2 : n ≤ 31) : field x (n - 1) 1 = one (x.getLsbD (n.toNat - 1)) := by
  have hw : within (n - 1) 1 = true := by unfold within; rw [decide_eq_true_eq]; omega
  unfold field; rw [if_pos hw]
  apply BitVec.eq_of_getLsbD_eq
  intro i hi
  rw [BitVec.getLsbD_and, BitVec.getLsbD_ushiftRight, mask_get _ _ hi]
  have e : (n - 1).toNat = n.toNat - 1 := by omega
  rw [e]
  unfold one
  by_cases h : i = 0
  · subst h; cases x.getLsbD (n.toNat - 1) <;> simp
  · have hj : ¬ i < (1 : Int).toNat := by simp; omega
    have hk : ¬ i < 1 := by omega
    cases hb : x.getLsbD (n.toNat - 1)
    · simp [h]
    · simp [h, BitVec.getLsbD_one]
theorem not_ (x : BitVec 32) : bits .xor .u32 4294967295 (x.toNat : Int) = ((~~~ x).toNat : Int) := by
  have e : (4294967295 : Int) = ((BitVec.allOnes 32).toNat : Int) := rfl
  rw [e, xor_, BitVec.allOnes_xor]
theorem hi_ (p : Int) : p / 4294967296 % 4294967296 = ((hi p).toNat : Int) := cut_ _
theorem notm_ (x : BitVec 32) : bits .xor .u32 IntKind.u32.max (x.toNat : Int) = ((~~~ x).toNat : Int) := by
  rw [show IntKind.u32.max = 4294967295 from rfl]; exact not_ x
theorem does_27 (a b : BitVec 32) : does 27 a b = a + b := rfl
theorem does_28 (a b : BitVec 32) : does 28 a b = a - b := rfl
theorem does_29 (a b : BitVec 32) : does 29 a b = a <<< sh b := rfl
theorem does_30 (a b : BitVec 32) : does 30 a b = one (a.slt b) := rfl
theorem does_31 (a b : BitVec 32) : does 31 a b = one (a.ult b) := rfl
theorem does_32 (a b : BitVec 32) : does 32 a b = a ^^^ b := rfl
theorem does_33 (a b : BitVec 32) : does 33 a b = a >>> sh b := rfl
theorem does_34 (a b : BitVec 32) : does 34 a b = a.sshiftRight (sh b) := rfl
theorem does_35 (a b : BitVec 32) : does 35 a b = a ||| b := rfl
theorem does_36 (a b : BitVec 32) : does 36 a b = a &&& b := rfl
theorem does_37 (a b : BitVec 32) : does 37 a b = a * b := rfl
theorem does_38 (a b : BitVec 32) : does 38 a b = hi (a.toInt * b.toInt) := rfl
theorem does_39 (a b : BitVec 32) : does 39 a b = hi (a.toInt * b.toNat) := rfl
theorem does_40 (a b : BitVec 32) : does 40 a b = BitVec.ofNat 32 (a.toNat * b.toNat / 4294967296) := rfl
theorem does_41 (a b : BitVec 32) : does 41 a b = quot a b := rfl
theorem does_42 (a b : BitVec 32) : does 42 a b = quotu a b := rfl
theorem does_43 (a b : BitVec 32) : does 43 a b = rest a b := rfl
theorem does_44 (a b : BitVec 32) : does 44 a b = restu a b := rfl
theorem beq_of {x y : BitVec 32} (h : x = y) : ((x.toNat : Int) == (y.toNat : Int)) = true := by rw [h]; exact beq_self_eq_true _
theorem bne_of {x y : BitVec 32} (h : x = y) : ((x.toNat : Int) != (y.toNat : Int)) = false := by rw [h]; exact bne_self_eq_false _
theorem beq_lit {x y : BitVec 32} {n : Int} (h : x = y) (hn : n = (y.toNat : Int)) : ((x.toNat : Int) == n) = true := by rw [h, hn]; exact beq_self_eq_true _
theorem or_split (a b : BitVec 32) : (a ^^^ b) + (a &&& b) = a ||| b := by
  rw [BitVec.add_eq_or_of_and_eq_zero]
  · ext i hi; simp; cases a[i] <;> cases b[i] <;> rfl
  · ext i hi; simp; cases a[i] <;> cases b[i] <;> simp
theorem or_sub_and (a b : BitVec 32) : (a ||| b) - (a &&& b) = a ^^^ b := by
  rw [← or_split]; bv_omega
theorem and_add_or (a b : BitVec 32) : (a &&& b) + (a ||| b) = a + b := by
  have h1 : (a &&& ~~~ b) + (a &&& b) = a := by
    rw [BitVec.add_eq_or_of_and_eq_zero]
    · ext i hi; simp; cases a[i] <;> cases b[i] <;> rfl
    · ext i hi; simp; cases a[i] <;> cases b[i] <;> simp
  have h2 : (a &&& ~~~ b) + b = a ||| b := by
    rw [BitVec.add_eq_or_of_and_eq_zero]
    · ext i hi; simp; cases a[i] <;> cases b[i] <;> rfl
    · ext i hi; simp
  rw [← h2]
  have h3 : (a &&& b) + ((a &&& ~~~ b) + b) = ((a &&& ~~~ b) + (a &&& b)) + b := by
    rw [← BitVec.add_assoc, BitVec.add_comm (a &&& b)]
  rw [h3, h1]
end Wd
end Go.Proofs.YtcffpmicencfpabGreat
namespace Go.Proofs.YtcffpmicencfpabGreat
open Go.RowKit

theorem ret_int {k : IntKind} {a b : Int} (h : a = b) : Ending.returned (.int k a) = .returned (.int k b) := by rw [h]
theorem ret_bool {a b : Bool} (h : a = b) : Ending.returned (.bool a) = .returned (.bool b) := by rw [h]
theorem ret_two {k l : IntKind} {a b c d : Int} (h : a = b) (h2 : c = d) : Ending.returned (.tuple #[.int k a, .int l c]) = .returned (.tuple #[.int k b, .int l d]) := by rw [h, h2]

theorem within_any (a n : Int) (w : World) : Calls Tryz.prog 88 #[.int .i64 a, .int .i64 n] w fun e w' => e = .returned (.bool (Wd.within a n)) ∧ w' = w := by
  go_enter Tryz.func88, Tryz.ntmps88
  go_wp2
  all_goals go_ret
  all_goals refine ⟨ret_bool ?_, rfl⟩
  all_goals unfold Wd.within
  all_goals first | (rw [decide_eq_decide]; omega) | (symm; rw [decide_eq_false_iff_not]; omega)

theorem mask_any (n : Int) (h0 : 0 ≤ n) (h1 : n ≤ 32) (w : World) : Calls Tryz.prog 89 #[.int .i64 n] w fun e w' => e = .returned (.int .u32 ((Wd.mask n.toNat).toNat : Int)) ∧ w' = w := by
  obtain ⟨m, rfl⟩ := Int.eq_ofNat_of_zero_le h0
  rw [Int.toNat_natCast]
  go_enter Tryz.func89, Tryz.ntmps89
  go_wp2
  go_loop [3, 5] (fun t i => ∃ k : Nat, k ≤ m ∧ i = .int .i64 k ∧ t = .int .u32 ((Wd.mask k).toNat : Int)) (fun _ i => m - (intOf i).toNat)
  case atStart => exact ⟨0, Nat.zero_le _, rfl, rfl⟩
  case round =>
    obtain ⟨k, hk, rfl, rfl⟩ := hrel
    by_cases hlt : k < m
    · go_wp2
      go_round
      case rel => exact ⟨k + 1, by omega, by go_num, by rw [Wd.mask_step]⟩
      case measure => simp [intOf]; omega
    · go_wp2
      go_ret
      have e : k = m := by omega
      subst e
      exact ⟨rfl, rfl⟩

end Go.Proofs.YtcffpmicencfpabGreat
namespace Go.Proofs.YtcffpmicencfpabGreat
open Go.RowKit

theorem field_any (x : BitVec 32) (a n : Int) (w : World) : Calls Tryz.prog 70 #[.int .u32 (x.toNat : Int), .int .i64 a, .int .i64 n] w fun e w' => e = .returned (.int .u32 ((Wd.field x a n).toNat : Int)) ∧ ∃ k, w' = w.drewN k := by
  by_cases h : Wd.within a n = true
  · have hb := of_decide_eq_true h
    obtain ⟨h1, h2, h3, h4, h5⟩ := hb
    go_enter Tryz.func70, Tryz.ntmps70
    go_wp2_with (go_at_call 88; refine (within_any _ _ _).mono ?_; rintro e w' ⟨rfl, rfl⟩)
    go_quiet ((go_at_call 89; exact Calls.quiet_of_same (mask_any n (by omega) (by omega) _)))
    go_wp2
    go_ret
    exact ⟨ret_int (by unfold Wd.field; rw [if_pos h, Wd.shr_, Wd.and_]), _, rfl⟩
  · have h' : Wd.within a n = false := by simpa using h
    clear h
    go_enter Tryz.func70, Tryz.ntmps70
    go_wp2_with (go_at_call 88; refine (within_any _ _ _).mono ?_; rintro e w' ⟨rfl, rfl⟩)
    go_ret
    exact ⟨ret_int (by unfold Wd.field; rw [if_neg (by simp [h'])]; rfl), 0, rfl⟩

theorem put_any (x : BitVec 32) (a n : Int) (v : BitVec 32) (w : World) : Calls Tryz.prog 85 #[.int .u32 (x.toNat : Int), .int .i64 a, .int .i64 n, .int .u32 (v.toNat : Int)] w fun e w' => e = .returned (.int .u32 ((Wd.put x a n v).toNat : Int)) ∧ ∃ k, w' = w.drewN k := by
  by_cases h : Wd.within a n = true
  · have hb := of_decide_eq_true h
    obtain ⟨h1, h2, h3, h4, h5⟩ := hb
    go_enter Tryz.func85, Tryz.ntmps85
    go_wp2_with (first | (go_at_call 88; refine (within_any _ _ _).mono ?_; rintro e w' ⟨rfl, rfl⟩) | (go_at_call 89; refine (mask_any n (by omega) (by omega) _).mono ?_; rintro e w' ⟨rfl, rfl⟩))
    go_quiet (fail)
    go_wp2
    go_ret
    exact ⟨ret_int (by unfold Wd.put; rw [if_pos h, Wd.shl_, Wd.andNot_, Wd.and_, Wd.shl_, Wd.or_]), _, rfl⟩
  · have h' : Wd.within a n = false := by simpa using h
    clear h
    go_enter Tryz.func85, Tryz.ntmps85
    go_wp2_with (go_at_call 88; refine (within_any _ _ _).mono ?_; rintro e w' ⟨rfl, rfl⟩)
    go_ret
    exact ⟨ret_int (by unfold Wd.put; rw [if_neg (by simp [h'])]), 0, rfl⟩

theorem sign_any (x : BitVec 32) (n : Int) (w : World) : Calls Tryz.prog 86 #[.int .u32 (x.toNat : Int), .int .i64 n] w fun e w' => e = .returned (.int .u32 ((Wd.sign x n).toNat : Int)) ∧ ∃ k, w' = w.drewN k := by
  by_cases h1 : 1 ≤ n
  · by_cases h2 : n ≤ 31
    · by_cases hb : x.getLsbD (n.toNat - 1) = true
      · have hf : (((Wd.field x (n - 1) 1).toNat : Int) == 1) = true := by rw [Wd.field_bit x n h1 h2, hb]; rfl
        have H : Hid (x.getLsbD (n.toNat - 1) = true) := hb
        clear hb
        go_enter Tryz.func86, Tryz.ntmps86
        go_wp2_with fail
        refine (field_any _ _ _ _).mono ?_
        rintro e w' ⟨rfl, k, rfl⟩
        go_wp2_with fail
        refine (mask_any n (by omega) (by omega) _).mono ?_
        rintro e w' ⟨rfl, rfl⟩
        go_wp2_with fail
        go_ret
        exact ⟨ret_int (by unfold Wd.sign; rw [if_pos ⟨h1, h2⟩, if_pos H.out, Wd.notm_, Wd.or_]), _, rfl⟩
      · have hb' : x.getLsbD (n.toNat - 1) = false := by simpa using hb
        have hf : (((Wd.field x (n - 1) 1).toNat : Int) == 1) = false := by rw [Wd.field_bit x n h1 h2, hb']; rfl
        have H : Hid (¬ x.getLsbD (n.toNat - 1) = true) := hb
        clear hb hb'
        go_enter Tryz.func86, Tryz.ntmps86
        go_wp2_with fail
        refine (field_any _ _ _ _).mono ?_
        rintro e w' ⟨rfl, k, rfl⟩
        go_wp2_with fail
        refine (mask_any n (by omega) (by omega) _).mono ?_
        rintro e w' ⟨rfl, rfl⟩
        go_wp2_with fail
        go_ret
        exact ⟨ret_int (by unfold Wd.sign; rw [if_pos ⟨h1, h2⟩, if_neg H.out, Wd.and_]), _, rfl⟩
    · go_enter Tryz.func86, Tryz.ntmps86
      go_wp2
      go_ret
      exact ⟨ret_int (by unfold Wd.sign; rw [if_neg (by omega)]), 0, rfl⟩
  · go_enter Tryz.func86, Tryz.ntmps86
    go_wp2
    go_ret
    exact ⟨ret_int (by unfold Wd.sign; rw [if_neg (by omega)]), 0, rfl⟩

end Go.Proofs.YtcffpmicencfpabGreat
namespace Go.Proofs.YtcffpmicencfpabGreat
open Go.RowKit

theorem sign_at (a n : Int) (x : BitVec 32) (ha : a = (x.toNat : Int)) (w : World) : Calls Tryz.prog 86 #[.int .u32 a, .int .i64 n] w fun e w' => e = .returned (.int .u32 ((Wd.sign x n).toNat : Int)) ∧ ∃ k, w' = w.drewN k := by
  subst ha; exact sign_any x n w
theorem field_at (c a n : Int) (x : BitVec 32) (hc : c = (x.toNat : Int)) (w : World) : Calls Tryz.prog 70 #[.int .u32 c, .int .i64 a, .int .i64 n] w fun e w' => e = .returned (.int .u32 ((Wd.field x a n).toNat : Int)) ∧ ∃ k, w' = w.drewN k := by
  subst hc; exact field_any x a n w
theorem put_at (c a n d : Int) (x v : BitVec 32) (hc : c = (x.toNat : Int)) (hd : d = (v.toNat : Int)) (w : World) : Calls Tryz.prog 85 #[.int .u32 c, .int .i64 a, .int .i64 n, .int .u32 d] w fun e w' => e = .returned (.int .u32 ((Wd.put x a n v).toNat : Int)) ∧ ∃ k, w' = w.drewN k := by
  subst hc hd; exact put_any x a n v w

end Go.Proofs.YtcffpmicencfpabGreat
namespace Go.Proofs.YtcffpmicencfpabGreat
end Go.Proofs.YtcffpmicencfpabGreat
namespace Go.Proofs.YtcffpmicencfpabGreat
open Go.RowKit
namespace Wd

theorem within_of (a n : Int) (h : 0 ≤ a ∧ a ≤ 31 ∧ 1 ≤ n ∧ n ≤ 32 ∧ a + n ≤ 32) : within a n = true := by unfold within; rw [decide_eq_true_eq]; exact h
theorem of_within {a n : Int} (h : within a n = true) : 0 ≤ a ∧ a ≤ 31 ∧ 1 ≤ n ∧ n ≤ 32 ∧ a + n ≤ 32 := of_decide_eq_true h

theorem field_get (w : BitVec 32) (a n : Int) (h : within a n = true) (i : Nat) (hi : i < 32) :
    (field w a n).getLsbD i = (decide (i < n.toNat) && w.getLsbD (a.toNat + i)) := by
  unfold field; rw [if_pos h, BitVec.getLsbD_and, BitVec.getLsbD_ushiftRight, mask_get _ _ hi, Bool.and_comm]
theorem put_get (w : BitVec 32) (a n : Int) (v : BitVec 32) (h : within a n = true) (i : Nat) (hi : i < 32) :
    (put w a n v).getLsbD i = if a.toNat ≤ i ∧ i < a.toNat + n.toNat then v.getLsbD (i - a.toNat) else w.getLsbD i := by
  have hb := of_within h
  unfold put
  rw [if_pos h, BitVec.getLsbD_or, BitVec.getLsbD_and, BitVec.getLsbD_not, BitVec.getLsbD_shiftLeft, BitVec.getLsbD_shiftLeft, BitVec.getLsbD_and]
  by_cases h1 : i < a.toNat
  · rw [if_neg (by omega)]; simp [h1, hi]
  · rw [mask_get _ _ (by omega)]
    by_cases h2 : i - a.toNat < n.toNat
    · rw [if_pos (by omega)]; simp [h1, h2, hi]
    · rw [if_neg (by omega)]; simp [h1, h2, hi]
theorem sign_get (w : BitVec 32) (n : Int) (h1 : 1 ≤ n) (h2 : n ≤ 31) (i : Nat) (hi : i < 32) :
    (sign w n).getLsbD i = w.getLsbD (min i (n.toNat - 1)) := by
  unfold sign; rw [if_pos ⟨h1, h2⟩]
  by_cases hb : w.getLsbD (n.toNat - 1) = true
  · rw [if_pos hb, BitVec.getLsbD_or, BitVec.getLsbD_not, mask_get _ _ hi]
    by_cases h : i < n.toNat
    · rw [show min i (n.toNat - 1) = i by omega]; simp [h]
    · rw [show min i (n.toNat - 1) = n.toNat - 1 by omega, hb]; simp [h, hi]
  · rw [if_neg hb, BitVec.getLsbD_and, mask_get _ _ hi]
    by_cases h : i < n.toNat
    · rw [show min i (n.toNat - 1) = i by omega]; simp [h]
    · rw [show min i (n.toNat - 1) = n.toNat - 1 by omega]; simp [h] at hb ⊢; exact hb
theorem field_whole (w : BitVec 32) : field w 0 32 = w := by
  apply BitVec.eq_of_getLsbD_eq; intro i hi
  rw [field_get w 0 32 (by decide) i hi]; simp [hi]
theorem field_low_lt (w : BitVec 32) (n : Int) (h1 : 1 ≤ n) (h2 : n ≤ 32) : ((field w 0 n).toNat : Int) < 2 ^ n.toNat := by
  have hw := within_of 0 n (by omega)
  unfold field; rw [if_pos hw, BitVec.toNat_and, mask_toNat _ (by omega), Nat.and_two_pow_sub_one_eq_mod]
  have : (w >>> (0 : Int).toNat).toNat % 2 ^ n.toNat < 2 ^ n.toNat := Nat.mod_lt _ (Nat.pow_pos (by decide))
  exact_mod_cast this
theorem and16 (c : Int) : ∃ d : Int, 0 ≤ d ∧ d ≤ 65535 ∧ bits .and .i64 c 65535 = d := by
  refine ⟨_, ?_, ?_, rfl⟩
  all_goals
    have e : bits .and .i64 c 65535 = IntKind.i64.wrap ((BitVec.ofInt 64 c &&& BitVec.ofInt 64 65535).toNat : Int) := rfl
    have m : (BitVec.ofInt 64 c &&& BitVec.ofInt 64 65535).toNat = (BitVec.ofInt 64 c).toNat % 65536 := by
      rw [BitVec.toNat_and]; exact Nat.and_two_pow_sub_one_eq_mod _ 16
    rw [e, m, IntKind.wrap_i64]; omega
theorem put_back (w v : BitVec 32) (k : Int) (h1 : 1 ≤ k) (h2 : k ≤ 31) :
    put (put v 0 k (field w 0 k)) k (32 - k) (field w k (32 - k)) = w := by
  have w1 := within_of 0 k (by omega)
  have w2 := within_of k (32 - k) (by omega)
  apply BitVec.eq_of_getLsbD_eq; intro i hi
  rw [put_get _ _ _ _ w2 i hi, put_get _ _ _ _ w1 i hi]
  by_cases h : i < k.toNat
  · rw [if_neg (by omega), if_pos (by simp; omega), field_get _ _ _ w1 _ (by simp; omega)]; simp [h]
  · rw [if_pos (by omega), field_get _ _ _ w2 _ (by omega)]
    rw [show k.toNat + (i - k.toNat) = i by omega, show decide (i - k.toNat < (32 - k).toNat) = true by rw [decide_eq_true_eq]; omega]; simp
theorem join (w : BitVec 32) (k : Int) (h1 : 1 ≤ k) (h2 : k ≤ 31) : (field w k (32 - k) <<< k.toNat) ||| field w 0 k = w := by
  have w1 := within_of 0 k (by omega)
  have w2 := within_of k (32 - k) (by omega)
  apply BitVec.eq_of_getLsbD_eq; intro i hi
  rw [BitVec.getLsbD_or, BitVec.getLsbD_shiftLeft, field_get _ _ _ w1 i hi]
  by_cases h : i < k.toNat
  · simp [h]
  · rw [field_get _ _ _ w2 _ (by omega), show k.toNat + (i - k.toNat) = i by omega, show decide (i - k.toNat < (32 - k).toNat) = true by rw [decide_eq_true_eq]; omega]
    simp [h, hi]
theorem field_put (w v : BitVec 32) (a n : Int) (h : within a n = true) : field (put w a n v) a n = field v 0 n := by
  have hb := of_within h
  have w1 := within_of 0 n (by omega)
  apply BitVec.eq_of_getLsbD_eq; intro i hi
  rw [field_get _ _ _ h i hi, field_get _ _ _ w1 i hi]
  by_cases h1 : i < n.toNat
  · rw [put_get _ _ _ _ h _ (by omega), if_pos (by omega), show a.toNat + i - a.toNat = i by omega]; simp
  · simp [h1]
theorem put_again (w v : BitVec 32) (a n : Int) (h : within a n = true) : put (put w a n v) a n (field w a n) = w := by
  have hb := of_within h
  apply BitVec.eq_of_getLsbD_eq; intro i hi
  rw [put_get _ _ _ _ h i hi]
  by_cases h1 : a.toNat ≤ i ∧ i < a.toNat + n.toNat
  · rw [if_pos h1, field_get _ _ _ h _ (by omega), show a.toNat + (i - a.toNat) = i by omega, show decide (i - a.toNat < n.toNat) = true by rw [decide_eq_true_eq]; omega]; simp
  · rw [if_neg h1, put_get _ _ _ _ h i hi, if_neg h1]
theorem sign_field (v : BitVec 32) (n : Int) (h1 : 1 ≤ n) (h2 : n ≤ 31) : sign v n = sign (field v 0 n) n := by
  have w1 := within_of 0 n (by omega)
  apply BitVec.eq_of_getLsbD_eq; intro i hi
  rw [sign_get _ _ h1 h2 i hi, sign_get _ _ h1 h2 i hi, field_get _ _ _ w1 _ (by omega)]
  rw [show decide (min i (n.toNat - 1) < n.toNat) = true by rw [decide_eq_true_eq]; omega]; simp
theorem field_sign (v : BitVec 32) (n : Int) (h1 : 1 ≤ n) (h2 : n ≤ 31) : field (sign v n) 0 n = field v 0 n := by
  have w1 := within_of 0 n (by omega)
  apply BitVec.eq_of_getLsbD_eq; intro i hi
  rw [field_get _ _ _ w1 i hi, field_get _ _ _ w1 i hi]
  by_cases h : i < n.toNat
  · rw [sign_get _ _ h1 h2 _ (by simp; omega), show min ((0 : Int).toNat + i) (n.toNat - 1) = (0 : Int).toNat + i by simp; omega]
  · simp [h]
theorem toNat_natCast_inj (a b : Nat) : ((a : Int) = (b : Int)) = (a = b) := propext Int.natCast_inj
end Wd
end Go.Proofs.YtcffpmicencfpabGreat
