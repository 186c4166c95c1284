/-
  Plain facts on words of 32 bits: what the walk's whole numbers are as bit vectors. No program in sight.
  Contracts of package word's functions: what each call answers, of whatever words; the world stays as it is.
  Contracts of word.Do, word.Field, word.Sign and word.Put: what each call answers, of whatever arguments; the world stays as it is.
  Contracts of the statements' own helpers 'does' and 'fixed': the first answers what a reckoning comes to, the second true; the world stays as it is but for draws.
  The contracts of package word that package inst leans on: those of the first stage.
  Plain facts on the fields of a word, bit by bit. No program in sight.
-/
import Derived.WalkKit
import Derived.Laws.BitsAllLaws
import Derived.Test.YthlefedljgmmfaaRows
import Derived.WalkLawsBesides
import Derived.Deep.QuietTactic
import Derived.BigQuiet

namespace Go.Proofs.Ythlefedljgmmfaa
open Go.RowKit

namespace Wd

def mask (n : Nat) : BitVec 32 := BitVec.ofNat 32 (2 ^ n - 1)
def within (a n : Int) : Bool := decide (0 ≤ a ∧ a ≤ 31 ∧ 1 ≤ n ∧ n ≤ 32 ∧ a + n ≤ 32)
def field (w : BitVec 32) (a n : Int) : BitVec 32 := if within a n = true then (w >>> a.toNat) &&& mask n.toNat else (BitVec.ofNat 32 0)
def sign (w : BitVec 32) (n : Int) : BitVec 32 :=
  if 1 ≤ n ∧ n ≤ 31 then (if w.getLsbD (n.toNat - 1) = true then w ||| ~~~ mask n.toNat else w &&& mask n.toNat) else w
def put (w : BitVec 32) (a n : Int) (v : BitVec 32) : BitVec 32 :=
  if within a n = true then (w &&& ~~~ (mask n.toNat <<< a.toNat)) ||| ((v &&& mask n.toNat) <<< a.toNat) else w
def sh (b : BitVec 32) : Nat := b.toNat % 32
def one (p : Bool) : BitVec 32 := if p = true then (BitVec.ofNat 32 1) else (BitVec.ofNat 32 0)
def known (op : Int) : Bool := decide (27 ≤ op ∧ op ≤ 44)
def quot (a b : BitVec 32) : BitVec 32 := if b = (BitVec.ofNat 32 0) then (BitVec.ofNat 32 4294967295) else BitVec.ofInt 32 (a.toInt.tdiv b.toInt)
def rest (a b : BitVec 32) : BitVec 32 := if b = (BitVec.ofNat 32 0) then a else BitVec.ofInt 32 (a.toInt.tmod b.toInt)
def quotu (a b : BitVec 32) : BitVec 32 := if b = (BitVec.ofNat 32 0) then (BitVec.ofNat 32 4294967295) else a / b
def restu (a b : BitVec 32) : BitVec 32 := if b = (BitVec.ofNat 32 0) then a else a % b
def hi (p : Int) : BitVec 32 := BitVec.ofInt 32 (p / 4294967296)
def run (op : Int) (a b : BitVec 32) : BitVec 32 :=
  if op = 27 then a + b else if op = 28 then a - b else if op = 29 then a <<< sh b else if op = 30 then one (a.slt b)
  else if op = 31 then one (a.ult b) else if op = 32 then a ^^^ b else if op = 33 then a >>> sh b else if op = 34 then a.sshiftRight (sh b)
  else if op = 35 then a ||| b else if op = 36 then a &&& b else if op = 37 then a * b
  else if op = 38 then hi (a.toInt * b.toInt) else if op = 39 then hi (a.toInt * b.toNat)
  else if op = 40 then BitVec.ofNat 32 (a.toNat * b.toNat / 4294967296)
  else if op = 41 then quot a b else if op = 42 then quotu a b else if op = 43 then rest a b else if op = 44 then restu a b else (BitVec.ofNat 32 0)
def err (op : Int) : Int := if known op = true then 0 else 1
def does (op : Int) (a b : BitVec 32) : BitVec 32 := if known op = true then run op a b else (BitVec.ofNat 32 1515870810)

theorem lt (x : BitVec 32) : (x.toNat : Int) < 4294967296 := by have := x.isLt; omega
theorem ge (x : BitVec 32) : (0 : Int) ≤ x.toNat := by omega

theorem of_int (a : Int) (h0 : 0 ≤ a) (h1 : a ≤ 4294967295) : ∃ x : BitVec 32, a = (x.toNat : Int) := by
  refine ⟨BitVec.ofNat 32 a.toNat, ?_⟩
  rw [BitVec.toNat_ofNat, Nat.mod_eq_of_lt (by omega)]; omega

theorem and_ (x y : BitVec 32) : bits .and .u32 (x.toNat : Int) (y.toNat : Int) = ((x &&& y).toNat : Int) := by
  rw [u32_and_nat _ _ x.isLt y.isLt, BitVec.toNat_and]
theorem or_ (x y : BitVec 32) : bits .or .u32 (x.toNat : Int) (y.toNat : Int) = ((x ||| y).toNat : Int) := by
  rw [u32_or_nat _ _ x.isLt y.isLt, BitVec.toNat_or]
theorem xor_ (x y : BitVec 32) : bits .xor .u32 (x.toNat : Int) (y.toNat : Int) = ((x ^^^ y).toNat : Int) := by
  rw [u32_xor_nat _ _ x.isLt y.isLt, BitVec.toNat_xor]
theorem andNot_ (x y : BitVec 32) : bits .andNot .u32 (x.toNat : Int) (y.toNat : Int) = ((x &&& ~~~ y).toNat : Int) := by
  rw [u32_andNot_nat _ _ x.isLt y.isLt, BitVec.toNat_and, BitVec.toNat_not]
theorem add_ (x y : BitVec 32) : ((x.toNat : Int) + (y.toNat : Int)) % 4294967296 = ((x + y).toNat : Int) := by
  rw [BitVec.toNat_add]; omega
theorem sub_ (x y : BitVec 32) : ((x.toNat : Int) - (y.toNat : Int)) % 4294967296 = ((x - y).toNat : Int) := by
  rw [BitVec.toNat_sub]; have := x.isLt; have := y.isLt; omega
theorem mul_ (x y : BitVec 32) : ((x.toNat : Int) * (y.toNat : Int)) % 4294967296 = ((x * y).toNat : Int) := by
  rw [BitVec.toNat_mul, Int.natCast_emod, Int.natCast_mul]; rfl
theorem shl_ (x : BitVec 32) (k : Nat) : ((x.toNat : Int) * 2 ^ k) % 4294967296 = ((x <<< k).toNat : Int) := by
  rw [BitVec.toNat_shiftLeft, Nat.shiftLeft_eq, Int.natCast_emod, Int.natCast_mul, Int.natCast_pow]; rfl
theorem shr_ (x : BitVec 32) (k : Nat) : (x.toNat : Int) / 2 ^ k = ((x >>> k).toNat : Int) := by
  rw [BitVec.toNat_ushiftRight, Nat.shiftRight_eq_div_pow, Int.natCast_ediv, Int.natCast_pow]; rfl
theorem toInt_ (x : BitVec 32) : wrap32 (x.toNat : Int) = x.toInt := by
  unfold wrap32; rw [BitVec.toInt_eq_toNat_cond]; have := x.isLt; split <;> omega
theorem toInt_lo (x : BitVec 32) : -2147483648 ≤ x.toInt := by have := @BitVec.le_toInt 32 x; omega
theorem toInt_hi (x : BitVec 32) : x.toInt ≤ 2147483647 := by have := @BitVec.toInt_lt 32 x; omega
theorem cut_ (a : Int) : a % 4294967296 = ((BitVec.ofInt 32 a).toNat : Int) := by
  rw [BitVec.toNat_ofInt]; omega
theorem sar_ (x : BitVec 32) (k : Nat) : (x.toInt / 2 ^ k) % 4294967296 = ((x.sshiftRight k).toNat : Int) := by
  rw [cut_]
  congr 2
  rw [← BitVec.ofInt_toInt (x := x.sshiftRight k), BitVec.toInt_sshiftRight, Int.shiftRight_eq_div_pow]; rfl
theorem slt_ (x y : BitVec 32) : decide (x.toInt < y.toInt) = x.slt y := rfl
theorem ult_ (x y : BitVec 32) : decide ((x.toNat : Int) < (y.toNat : Int)) = x.ult y := by
  rw [BitVec.ult_eq_decide]; simp
theorem prod_in (a b : BitVec 32) : -9223372036854775808 ≤ a.toInt * b.toInt ∧ a.toInt * b.toInt ≤ 9223372036854775807 := by
  have h1 := toInt_lo a; have h2 := toInt_hi a; have h3 := toInt_lo b; have h4 := toInt_hi b
  have k : (a.toInt * b.toInt).natAbs ≤ 2147483648 * 2147483648 := by
    rw [Int.natAbs_mul]; exact Nat.mul_le_mul (by omega) (by omega)
  omega
theorem prodsu_in (a b : BitVec 32) : -9223372036854775808 ≤ a.toInt * b.toNat ∧ a.toInt * b.toNat ≤ 9223372036854775807 := by
  have h1 := toInt_lo a; have h2 := toInt_hi a; have h4 := b.isLt
  have k : (a.toInt * b.toNat).natAbs ≤ 2147483648 * 4294967295 := by
    rw [Int.natAbs_mul]; exact Nat.mul_le_mul (by omega) (by omega)
  omega
theorem produu_in (a b : BitVec 32) : (0 : Int) ≤ (a.toNat : Int) * b.toNat ∧ (a.toNat : Int) * b.toNat ≤ 18446744073709551615 := by
  have h3 := a.isLt; have h4 := b.isLt
  have k : a.toNat * b.toNat ≤ 4294967295 * 4294967295 := Nat.mul_le_mul (by omega) (by omega)
  rw [← Int.natCast_mul]
  omega
theorem hi_uu (a b : BitVec 32) : ((a.toNat : Int) * b.toNat) / 4294967296 = ((BitVec.ofNat 32 (a.toNat * b.toNat / 4294967296)).toNat : Int) := by
  have h3 := a.isLt; have h4 := b.isLt
  have k : a.toNat * b.toNat ≤ 4294967295 * 4294967295 := Nat.mul_le_mul (by omega) (by omega)
  rw [BitVec.toNat_ofNat, ← Int.natCast_mul]
  omega
theorem mask_toNat (n : Nat) (h : n ≤ 32) : (mask n).toNat = 2 ^ n - 1 := by
  unfold mask; rw [BitVec.toNat_ofNat]
  have : 2 ^ n ≤ 2 ^ 32 := Nat.pow_le_pow_right (by omega) h
  exact Nat.mod_eq_of_lt (by omega)
theorem mask_get (n i : Nat) (hi : i < 32) : (mask n).getLsbD i = decide (i < n) := by
  unfold mask
  rw [BitVec.getLsbD_ofNat, Nat.testBit_two_pow_sub_one]; simp [hi]
theorem mask_succ (n : Nat) : (mask n <<< 1) ||| (BitVec.ofNat 32 1) = mask (n + 1) := by
  apply BitVec.eq_of_getLsbD_eq
  intro i hi
  rw [BitVec.getLsbD_or, BitVec.getLsbD_shiftLeft, mask_get _ _ hi]
  by_cases h : i = 0
  · subst h; simp
  · have h1 : ¬ i < 1 := by omega
    rw [mask_get _ _ (by omega)]
    have h2 : ((BitVec.ofNat 32 1)).getLsbD i = false := by
      rw [BitVec.getLsbD_ofNat]
      have : Nat.testBit 1 i = false := Nat.testBit_lt_two_pow (by
        have : 2 ^ 1 ≤ 2 ^ i := Nat.pow_le_pow_right (by omega) (by omega)
        omega)
      simp [this]
    have e : (i - 1 < n) ↔ (i < n + 1) := by omega
    rw [h2]
    simp [hi, h1, e]
theorem mask_step (k : Nat) : bits .or .u32 (((mask k).toNat : Int) * 2 % 4294967296) 1 = ((mask (k + 1)).toNat : Int) := by
  have e := shl_ (mask k) 1
  rw [show (2 : Int) ^ 1 = 2 from rfl] at e
  rw [e, ← mask_succ, ← or_]; rfl
theorem and31 (b : BitVec 32) : bits .and .u32 (b.toNat : Int) 31 = (sh b : Int) := by
  have e : (31 : Int) = (((BitVec.ofNat 32 31)).toNat : Int) := rfl
  rw [e, and_, BitVec.toNat_and]
  have : b.toNat &&& ((BitVec.ofNat 32 31)).toNat = b.toNat % 2 ^ 5 := Nat.and_two_pow_sub_one_eq_mod b.toNat 5
  rw [this]; rfl
theorem sh_lt (b : BitVec 32) : sh b < 32 := Nat.mod_lt _ (by decide)
theorem eq0 (b : BitVec 32) (h : ((b.toNat : Int) == 0) = true) : b = (BitVec.ofNat 32 0) := by
  apply BitVec.eq_of_toNat_eq; have : (b.toNat : Int) = 0 := by simpa using h
  simp; omega
theorem ne0 (b : BitVec 32) (h : ((b.toNat : Int) == 0) = false) : b ≠ (BitVec.ofNat 32 0) := by
  intro e; subst e; simp at h
theorem toInt_ne (b : BitVec 32) (h : b ≠ (BitVec.ofNat 32 0)) : b.toInt ≠ 0 := by
  intro e; apply h; apply BitVec.eq_of_toInt_eq; simpa using e
theorem tdiv_in (a b : BitVec 32) : -2147483648 ≤ a.toInt.tdiv b.toInt ∧ a.toInt.tdiv b.toInt ≤ 2147483648 := by
  have h1 := toInt_lo a; have h2 := toInt_hi a
  have := Int.natAbs_tdiv a.toInt b.toInt
  have h : a.toInt.natAbs / b.toInt.natAbs ≤ a.toInt.natAbs := Nat.div_le_self _ _
  have h3 : (a.toInt.tdiv b.toInt).natAbs ≤ 2147483648 := by rw [this]; exact Nat.le_trans h (by omega)
  omega
theorem divu_ (a b : BitVec 32) : (a.toNat : Int) / (b.toNat : Int) = ((a / b).toNat : Int) := by
  rw [BitVec.toNat_udiv, Int.natCast_ediv]
theorem modu_ (a b : BitVec 32) : (a.toNat : Int) % (b.toNat : Int) = ((a % b).toNat : Int) := by
  rw [BitVec.toNat_umod, Int.natCast_emod]
theorem field_bit (x : BitVec 32) (n : Int) (h1 : 1 ≤ n) (h2 : n ≤ 31) : field x (n - 1) 1 = one (x.getLsbD (n.toNat - 1)) := by
  have hw : within (n - 1) 1 = true := by unfold within; rw [decide_eq_true_eq]; omega
  unfold field; rw [if_pos hw]
  apply BitVec.eq_of_getLsbD_eq
  intro i hi
  rw [BitVec.getLsbD_and, BitVec.getLsbD_ushiftRight, mask_get _ _ hi]
  have e : (n - 1).toNat = n.toNat - 1 := by omega
  rw [e]
  unfold one
  by_cases h : i = 0
  · subst h; cases x.getLsbD (n.toNat - 1) <;> simp
  · have hj : ¬ i < (1 : Int).toNat := by simp; omega
    have hk : ¬ i < 1 := by omega
    cases hb : x.getLsbD (n.toNat - 1)
    · simp [h]
    · simp [h, BitVec.getLsbD_one]
theorem not_ (x : BitVec 32) : bits .xor .u32 4294967295 (x.toNat : Int) = ((~~~ x).toNat : Int) := by
  have e : (4294967295 : Int) = ((BitVec.allOnes 32).toNat : Int) := rfl
  rw [e, xor_, BitVec.allOnes_xor]
theorem hi_ (p : Int) : p / 4294967296 % 4294967296 = ((hi p).toNat : Int) := cut_ _
theorem notm_ (x : BitVec 32) : bits .xor .u32 IntKind.u32.max (x.toNat : Int) = ((~~~ x).toNat : Int) := by
  rw [show IntKind.u32.max = 4294967295 from rfl]; exact not_ x
theorem does_27 (a b : BitVec 32) : does 27 a b = a + b := rfl
theorem does_28 (a b : BitVec 32) : does 28 a b = a - b := rfl
theorem does_29 (a b : BitVec 32) : does 29 a b = a <<< sh b := rfl
theorem does_30 (a b : BitVec 32) : does 30 a b = one (a.slt b) := rfl
theorem does_31 (a b : BitVec 32) : does 31 a b = one (a.ult b) := rfl
theorem does_32 (a b : BitVec 32) : does 32 a b = a ^^^ b := rfl
theorem does_33 (a b : BitVec 32) : does 33 a b = a >>> sh b := rfl
theorem does_34 (a b : BitVec 32) : does 34 a b = a.sshiftRight (sh b) := rfl
theorem does_35 (a b : BitVec 32) : does 35 a b = a ||| b := rfl
theorem does_36 (a b : BitVec 32) : does 36 a b = a &&& b := rfl
theorem does_37 (a b : BitVec 32) : does 37 a b = a * b := rfl
theorem does_38 (a b : BitVec 32) : does 38 a b = hi (a.toInt * b.toInt) := rfl
theorem does_39 (a b : BitVec 32) : does 39 a b = hi (a.toInt * b.toNat) := rfl
theorem does_40 (a b : BitVec 32) : does 40 a b = BitVec.ofNat 32 (a.toNat * b.toNat / 4294967296) := rfl
theorem does_41 (a b : BitVec 32) : does 41 a b = quot a b := rfl
theorem does_42 (a b : BitVec 32) : does 42 a b = quotu a b := rfl
theorem does_43 (a b : BitVec 32) : does 43 a b = rest a b := rfl
theorem does_44 (a b : BitVec 32) : does 44 a b = restu a b := rfl
theorem beq_of {x y : BitVec 32} (h : x = y) : ((x.toNat : Int) == (y.toNat : Int)) = true := by rw [h]; exact beq_self_eq_true _
theorem bne_of {x y : BitVec 32} (h : x = y) : ((x.toNat : Int) != (y.toNat : Int)) = false := by rw [h]; exact bne_self_eq_false _
theorem beq_lit {x y : BitVec 32} {n : Int} (h : x = y) (hn : n = (y.toNat : Int)) : ((x.toNat : Int) == n) = true := by rw [h, hn]; exact beq_self_eq_true _
theorem or_split (a b : BitVec 32) : (a ^^^ b) + (a &&& b) = a ||| b := by
  rw [BitVec.add_eq_or_of_and_eq_zero]
  · ext i hi; simp; cases a[i] <;> cases b[i] <;> rfl
  · ext i hi; simp; cases a[i] <;> cases b[i] <;> simp
theorem or_sub_and (a b : BitVec 32) : (a ||| b) - (a &&& b) = a ^^^ b := by
  rw [← or_split]; bv_omega
theorem and_add_or (a b : BitVec 32) : (a &&& b) + (a ||| b) = a + b := by
  have h1 : (a &&& ~~~ b) + (a &&& b) = a := by
    rw [BitVec.add_eq_or_of_and_eq_zero]
    · ext i hi; simp; cases a[i] <;> cases b[i] <;> rfl
    · ext i hi; simp; cases a[i] <;> cases b[i] <;> simp
  have h2 : (a &&& ~~~ b) + b = a ||| b := by
    rw [BitVec.add_eq_or_of_and_eq_zero]
    · ext i hi; simp; cases a[i] <;> cases b[i] <;> rfl
    · ext i hi; simp
  rw [← h2]
  have h3 : (a &&& b) + ((a &&& ~~~ b) + b) = ((a &&& ~~~ b) + (a &&& b)) + b := by
    rw [← BitVec.add_assoc, BitVec.add_comm (a &&& b)]
  rw [h3, h1]
end Wd
end Go.Proofs.Ythlefedljgmmfaa
namespace Go.Proofs.Ythlefedljgmmfaa
open Go.RowKit

theorem ret_int {k : IntKind} {a b : Int} (h : a = b) : Ending.returned (.int k a) = .returned (.int k b) := by rw [h]
theorem ret_bool {a b : Bool} (h : a = b) : Ending.returned (.bool a) = .returned (.bool b) := by rw [h]
theorem ret_two {k l : IntKind} {a b c d : Int} (h : a = b) (h2 : c = d) : Ending.returned (.tuple #[.int k a, .int l c]) = .returned (.tuple #[.int k b, .int l d]) := by rw [h, h2]

theorem shift_any (b : BitVec 32) (w : World) : Calls Try.prog 52 #[.int .u32 (b.toNat : Int)] w fun e w' => e = .returned (.int .u32 (Wd.sh b : Int)) ∧ w' = w := by
  go_enter Try.func52, Try.ntmps52
  go_wp2
  go_ret
  exact ⟨ret_int (Wd.and31 b), rfl⟩

theorem one_any (p : Bool) (w : World) : Calls Try.prog 53 #[.bool p] w fun e w' => e = .returned (.int .u32 ((Wd.one p).toNat : Int)) ∧ w' = w := by
  cases p
  all_goals go_enter Try.func53, Try.ntmps53
  all_goals go_wp2
  all_goals go_ret
  all_goals exact ⟨rfl, rfl⟩

theorem signed_any (b : BitVec 32) (w : World) : Calls Try.prog 55 #[.int .u32 (b.toNat : Int)] w fun e w' => e = .returned (.int .i64 b.toInt) ∧ w' = w := by
  have h1 := Wd.toInt_lo b
  have h2 := Wd.toInt_hi b
  go_enter Try.func55, Try.ntmps55
  go_wp2
  go_ret
  exact ⟨ret_int (by rw [Wd.toInt_, IntWalk.wrap64_in _ (by omega)]), rfl⟩

theorem high_any (p : Int) (w : World) : Calls Try.prog 54 #[.int .i64 p] w fun e w' => e = .returned (.int .u32 ((Wd.hi p).toNat : Int)) ∧ w' = w := by
  go_enter Try.func54, Try.ntmps54
  go_wp2
  go_ret
  exact ⟨ret_int (Wd.hi_ _), rfl⟩

theorem quotu_any (a b : BitVec 32) (w : World) : Calls Try.prog 57 #[.int .u32 (a.toNat : Int), .int .u32 (b.toNat : Int)] w fun e w' => e = .returned (.int .u32 ((Wd.quotu a b).toNat : Int)) ∧ w' = w := by
  have ha := Wd.lt a
  have hb := Wd.lt b
  by_cases h : ((b.toNat : Int) == 0) = true
  · have e := Wd.eq0 b h
    go_enter Try.func57, Try.ntmps57
    go_wp2
    go_ret
    exact ⟨ret_int (by unfold Wd.quotu; rw [if_pos e]; rfl), rfl⟩
  · have h' : ((b.toNat : Int) == 0) = false := by simpa using h
    have e := Wd.ne0 b h'
    have hp : (1 : Int) ≤ b.toNat := by
      have : (b.toNat : Int) ≠ 0 := by simpa using h'
      omega
    clear h
    go_enter Try.func57, Try.ntmps57
    go_wp2
    go_ret
    exact ⟨ret_int (by unfold Wd.quotu; rw [if_neg e, Wd.divu_]; exact Int.emod_eq_of_lt (Wd.ge _) (Wd.lt _)), rfl⟩

theorem restu_any (a b : BitVec 32) (w : World) : Calls Try.prog 59 #[.int .u32 (a.toNat : Int), .int .u32 (b.toNat : Int)] w fun e w' => e = .returned (.int .u32 ((Wd.restu a b).toNat : Int)) ∧ w' = w := by
  have ha := Wd.lt a
  have hb := Wd.lt b
  by_cases h : ((b.toNat : Int) == 0) = true
  · have e := Wd.eq0 b h
    go_enter Try.func59, Try.ntmps59
    go_wp2
    go_ret
    exact ⟨ret_int (by unfold Wd.restu; rw [if_pos e]), rfl⟩
  · have h' : ((b.toNat : Int) == 0) = false := by simpa using h
    have e := Wd.ne0 b h'
    have hp : (1 : Int) ≤ b.toNat := by
      have : (b.toNat : Int) ≠ 0 := by simpa using h'
      omega
    clear h
    go_enter Try.func59, Try.ntmps59
    go_wp2
    go_ret
    exact ⟨ret_int (by unfold Wd.restu; rw [if_neg e]; exact Wd.modu_ a b), rfl⟩

theorem quot_any (a b : BitVec 32) (w : World) : Calls Try.prog 56 #[.int .u32 (a.toNat : Int), .int .u32 (b.toNat : Int)] w fun e w' => e = .returned (.int .u32 ((Wd.quot a b).toNat : Int)) ∧ w' = w := by
  by_cases h : ((b.toNat : Int) == 0) = true
  · have e := Wd.eq0 b h
    go_enter Try.func56, Try.ntmps56
    go_wp2
    go_ret
    exact ⟨ret_int (by unfold Wd.quot; rw [if_pos e]; rfl), rfl⟩
  · have h' : ((b.toNat : Int) == 0) = false := by simpa using h
    have e := Wd.ne0 b h'
    have hz := Wd.toInt_ne b e
    have hd := Wd.tdiv_in a b
    clear h
    go_enter Try.func56, Try.ntmps56
    go_wp2_with (go_at_call 55; refine (signed_any _ _).mono ?_; rintro e w' ⟨rfl, rfl⟩)
    go_ret
    exact ⟨ret_int (by unfold Wd.quot; rw [if_neg e]; first | exact Wd.cut_ _ | (rw [IntWalk.wrap64_in _ (by omega)]; exact Wd.cut_ _)), rfl⟩

theorem rest_any (a b : BitVec 32) (w : World) : Calls Try.prog 58 #[.int .u32 (a.toNat : Int), .int .u32 (b.toNat : Int)] w fun e w' => e = .returned (.int .u32 ((Wd.rest a b).toNat : Int)) ∧ w' = w := by
  by_cases h : ((b.toNat : Int) == 0) = true
  · have e := Wd.eq0 b h
    go_enter Try.func58, Try.ntmps58
    go_wp2
    go_ret
    exact ⟨ret_int (by unfold Wd.rest; rw [if_pos e]), rfl⟩
  · have h' : ((b.toNat : Int) == 0) = false := by simpa using h
    have e := Wd.ne0 b h'
    have hz := Wd.toInt_ne b e
    clear h
    go_enter Try.func58, Try.ntmps58
    go_wp2_with (go_at_call 55; refine (signed_any _ _).mono ?_; rintro e w' ⟨rfl, rfl⟩)
    go_ret
    exact ⟨ret_int (by unfold Wd.rest; rw [if_neg e]; exact Wd.cut_ _), rfl⟩
end Go.Proofs.Ythlefedljgmmfaa
namespace Go.Proofs.Ythlefedljgmmfaa
open Go.RowKit

theorem do_27 (x y : BitVec 32) (w : World) : Calls Try.prog 29 #[.int .i64 27, .int .u32 (x.toNat : Int), .int .u32 (y.toNat : Int)] w fun e w' => e = .returned (.tuple #[.int .u32 ((Wd.run 27 x y).toNat : Int), .int .i64 0]) ∧ w' = w := by
  have hs := Wd.sh_lt y
  have hx := Wd.lt x
  have hy := Wd.lt y
  have hx1 := Wd.toInt_lo x
  have hx2 := Wd.toInt_hi x
  go_enter Try.func29, Try.ntmps29
  go_wp2_with (first | (go_at_call 52; refine (shift_any _ _).mono ?_; rintro e w' ⟨rfl, rfl⟩) | (go_at_call 53; refine (one_any _ _).mono ?_; rintro e w' ⟨rfl, rfl⟩) | (go_at_call 54; refine (high_any _ _).mono ?_; rintro e w' ⟨rfl, rfl⟩) | (go_at_call 55; refine (signed_any _ _).mono ?_; rintro e w' ⟨rfl, rfl⟩) | (go_at_call 56; refine (quot_any _ _ _).mono ?_; rintro e w' ⟨rfl, rfl⟩) | (go_at_call 57; refine (quotu_any _ _ _).mono ?_; rintro e w' ⟨rfl, rfl⟩) | (go_at_call 58; refine (rest_any _ _ _).mono ?_; rintro e w' ⟨rfl, rfl⟩) | (go_at_call 59; refine (restu_any _ _ _).mono ?_; rintro e w' ⟨rfl, rfl⟩))
  go_ret2
  exact ⟨ret_two (Wd.add_ x y) rfl, rfl⟩

theorem do_28 (x y : BitVec 32) (w : World) : Calls Try.prog 29 #[.int .i64 28, .int .u32 (x.toNat : Int), .int .u32 (y.toNat : Int)] w fun e w' => e = .returned (.tuple #[.int .u32 ((Wd.run 28 x y).toNat : Int), .int .i64 0]) ∧ w' = w := by
  have hs := Wd.sh_lt y
  have hx := Wd.lt x
  have hy := Wd.lt y
  have hx1 := Wd.toInt_lo x
  have hx2 := Wd.toInt_hi x
  go_enter Try.func29, Try.ntmps29
  go_wp2_with (first | (go_at_call 52; refine (shift_any _ _).mono ?_; rintro e w' ⟨rfl, rfl⟩) | (go_at_call 53; refine (one_any _ _).mono ?_; rintro e w' ⟨rfl, rfl⟩) | (go_at_call 54; refine (high_any _ _).mono ?_; rintro e w' ⟨rfl, rfl⟩) | (go_at_call 55; refine (signed_any _ _).mono ?_; rintro e w' ⟨rfl, rfl⟩) | (go_at_call 56; refine (quot_any _ _ _).mono ?_; rintro e w' ⟨rfl, rfl⟩) | (go_at_call 57; refine (quotu_any _ _ _).mono ?_; rintro e w' ⟨rfl, rfl⟩) | (go_at_call 58; refine (rest_any _ _ _).mono ?_; rintro e w' ⟨rfl, rfl⟩) | (go_at_call 59; refine (restu_any _ _ _).mono ?_; rintro e w' ⟨rfl, rfl⟩))
  go_ret2
  exact ⟨ret_two (Wd.sub_ x y) rfl, rfl⟩

theorem do_29 (x y : BitVec 32) (w : World) : Calls Try.prog 29 #[.int .i64 29, .int .u32 (x.toNat : Int), .int .u32 (y.toNat : Int)] w fun e w' => e = .returned (.tuple #[.int .u32 ((Wd.run 29 x y).toNat : Int), .int .i64 0]) ∧ w' = w := by
  have hs := Wd.sh_lt y
  have hx := Wd.lt x
  have hy := Wd.lt y
  have hx1 := Wd.toInt_lo x
  have hx2 := Wd.toInt_hi x
  go_enter Try.func29, Try.ntmps29
  go_wp2_with (first | (go_at_call 52; refine (shift_any _ _).mono ?_; rintro e w' ⟨rfl, rfl⟩) | (go_at_call 53; refine (one_any _ _).mono ?_; rintro e w' ⟨rfl, rfl⟩) | (go_at_call 54; refine (high_any _ _).mono ?_; rintro e w' ⟨rfl, rfl⟩) | (go_at_call 55; refine (signed_any _ _).mono ?_; rintro e w' ⟨rfl, rfl⟩) | (go_at_call 56; refine (quot_any _ _ _).mono ?_; rintro e w' ⟨rfl, rfl⟩) | (go_at_call 57; refine (quotu_any _ _ _).mono ?_; rintro e w' ⟨rfl, rfl⟩) | (go_at_call 58; refine (rest_any _ _ _).mono ?_; rintro e w' ⟨rfl, rfl⟩) | (go_at_call 59; refine (restu_any _ _ _).mono ?_; rintro e w' ⟨rfl, rfl⟩))
  go_ret2
  exact ⟨ret_two (Wd.shl_ x (Wd.sh y)) rfl, rfl⟩

theorem do_30 (x y : BitVec 32) (w : World) : Calls Try.prog 29 #[.int .i64 30, .int .u32 (x.toNat : Int), .int .u32 (y.toNat : Int)] w fun e w' => e = .returned (.tuple #[.int .u32 ((Wd.run 30 x y).toNat : Int), .int .i64 0]) ∧ w' = w := by
  have hs := Wd.sh_lt y
  have hx := Wd.lt x
  have hy := Wd.lt y
  have hx1 := Wd.toInt_lo x
  have hx2 := Wd.toInt_hi x
  go_enter Try.func29, Try.ntmps29
  go_wp2_with (first | (go_at_call 52; refine (shift_any _ _).mono ?_; rintro e w' ⟨rfl, rfl⟩) | (go_at_call 53; refine (one_any _ _).mono ?_; rintro e w' ⟨rfl, rfl⟩) | (go_at_call 54; refine (high_any _ _).mono ?_; rintro e w' ⟨rfl, rfl⟩) | (go_at_call 55; refine (signed_any _ _).mono ?_; rintro e w' ⟨rfl, rfl⟩) | (go_at_call 56; refine (quot_any _ _ _).mono ?_; rintro e w' ⟨rfl, rfl⟩) | (go_at_call 57; refine (quotu_any _ _ _).mono ?_; rintro e w' ⟨rfl, rfl⟩) | (go_at_call 58; refine (rest_any _ _ _).mono ?_; rintro e w' ⟨rfl, rfl⟩) | (go_at_call 59; refine (restu_any _ _ _).mono ?_; rintro e w' ⟨rfl, rfl⟩))
  go_ret2
  exact ⟨ret_two (by rw [Wd.toInt_, Wd.toInt_]; rfl) rfl, rfl⟩

theorem do_31 (x y : BitVec 32) (w : World) : Calls Try.prog 29 #[.int .i64 31, .int .u32 (x.toNat : Int), .int .u32 (y.toNat : Int)] w fun e w' => e = .returned (.tuple #[.int .u32 ((Wd.run 31 x y).toNat : Int), .int .i64 0]) ∧ w' = w := by
  have hs := Wd.sh_lt y
  have hx := Wd.lt x
  have hy := Wd.lt y
  have hx1 := Wd.toInt_lo x
  have hx2 := Wd.toInt_hi x
  go_enter Try.func29, Try.ntmps29
  go_wp2_with (first | (go_at_call 52; refine (shift_any _ _).mono ?_; rintro e w' ⟨rfl, rfl⟩) | (go_at_call 53; refine (one_any _ _).mono ?_; rintro e w' ⟨rfl, rfl⟩) | (go_at_call 54; refine (high_any _ _).mono ?_; rintro e w' ⟨rfl, rfl⟩) | (go_at_call 55; refine (signed_any _ _).mono ?_; rintro e w' ⟨rfl, rfl⟩) | (go_at_call 56; refine (quot_any _ _ _).mono ?_; rintro e w' ⟨rfl, rfl⟩) | (go_at_call 57; refine (quotu_any _ _ _).mono ?_; rintro e w' ⟨rfl, rfl⟩) | (go_at_call 58; refine (rest_any _ _ _).mono ?_; rintro e w' ⟨rfl, rfl⟩) | (go_at_call 59; refine (restu_any _ _ _).mono ?_; rintro e w' ⟨rfl, rfl⟩))
  go_ret2
  exact ⟨ret_two rfl rfl, rfl⟩

theorem do_32 (x y : BitVec 32) (w : World) : Calls Try.prog 29 #[.int .i64 32, .int .u32 (x.toNat : Int), .int .u32 (y.toNat : Int)] w fun e w' => e = .returned (.tuple #[.int .u32 ((Wd.run 32 x y).toNat : Int), .int .i64 0]) ∧ w' = w := by
  have hs := Wd.sh_lt y
  have hx := Wd.lt x
  have hy := Wd.lt y
  have hx1 := Wd.toInt_lo x
  have hx2 := Wd.toInt_hi x
  go_enter Try.func29, Try.ntmps29
  go_wp2_with (first | (go_at_call 52; refine (shift_any _ _).mono ?_; rintro e w' ⟨rfl, rfl⟩) | (go_at_call 53; refine (one_any _ _).mono ?_; rintro e w' ⟨rfl, rfl⟩) | (go_at_call 54; refine (high_any _ _).mono ?_; rintro e w' ⟨rfl, rfl⟩) | (go_at_call 55; refine (signed_any _ _).mono ?_; rintro e w' ⟨rfl, rfl⟩) | (go_at_call 56; refine (quot_any _ _ _).mono ?_; rintro e w' ⟨rfl, rfl⟩) | (go_at_call 57; refine (quotu_any _ _ _).mono ?_; rintro e w' ⟨rfl, rfl⟩) | (go_at_call 58; refine (rest_any _ _ _).mono ?_; rintro e w' ⟨rfl, rfl⟩) | (go_at_call 59; refine (restu_any _ _ _).mono ?_; rintro e w' ⟨rfl, rfl⟩))
  go_ret2
  exact ⟨ret_two (Wd.xor_ x y) rfl, rfl⟩

theorem do_33 (x y : BitVec 32) (w : World) : Calls Try.prog 29 #[.int .i64 33, .int .u32 (x.toNat : Int), .int .u32 (y.toNat : Int)] w fun e w' => e = .returned (.tuple #[.int .u32 ((Wd.run 33 x y).toNat : Int), .int .i64 0]) ∧ w' = w := by
  have hs := Wd.sh_lt y
  have hx := Wd.lt x
  have hy := Wd.lt y
  have hx1 := Wd.toInt_lo x
  have hx2 := Wd.toInt_hi x
  go_enter Try.func29, Try.ntmps29
  go_wp2_with (first | (go_at_call 52; refine (shift_any _ _).mono ?_; rintro e w' ⟨rfl, rfl⟩) | (go_at_call 53; refine (one_any _ _).mono ?_; rintro e w' ⟨rfl, rfl⟩) | (go_at_call 54; refine (high_any _ _).mono ?_; rintro e w' ⟨rfl, rfl⟩) | (go_at_call 55; refine (signed_any _ _).mono ?_; rintro e w' ⟨rfl, rfl⟩) | (go_at_call 56; refine (quot_any _ _ _).mono ?_; rintro e w' ⟨rfl, rfl⟩) | (go_at_call 57; refine (quotu_any _ _ _).mono ?_; rintro e w' ⟨rfl, rfl⟩) | (go_at_call 58; refine (rest_any _ _ _).mono ?_; rintro e w' ⟨rfl, rfl⟩) | (go_at_call 59; refine (restu_any _ _ _).mono ?_; rintro e w' ⟨rfl, rfl⟩))
  go_ret2
  exact ⟨ret_two (Wd.shr_ x (Wd.sh y)) rfl, rfl⟩

theorem do_34 (x y : BitVec 32) (w : World) : Calls Try.prog 29 #[.int .i64 34, .int .u32 (x.toNat : Int), .int .u32 (y.toNat : Int)] w fun e w' => e = .returned (.tuple #[.int .u32 ((Wd.run 34 x y).toNat : Int), .int .i64 0]) ∧ w' = w := by
  have hs := Wd.sh_lt y
  have hx := Wd.lt x
  have hy := Wd.lt y
  have hx1 := Wd.toInt_lo x
  have hx2 := Wd.toInt_hi x
  go_enter Try.func29, Try.ntmps29
  go_wp2_with (first | (go_at_call 52; refine (shift_any _ _).mono ?_; rintro e w' ⟨rfl, rfl⟩) | (go_at_call 53; refine (one_any _ _).mono ?_; rintro e w' ⟨rfl, rfl⟩) | (go_at_call 54; refine (high_any _ _).mono ?_; rintro e w' ⟨rfl, rfl⟩) | (go_at_call 55; refine (signed_any _ _).mono ?_; rintro e w' ⟨rfl, rfl⟩) | (go_at_call 56; refine (quot_any _ _ _).mono ?_; rintro e w' ⟨rfl, rfl⟩) | (go_at_call 57; refine (quotu_any _ _ _).mono ?_; rintro e w' ⟨rfl, rfl⟩) | (go_at_call 58; refine (rest_any _ _ _).mono ?_; rintro e w' ⟨rfl, rfl⟩) | (go_at_call 59; refine (restu_any _ _ _).mono ?_; rintro e w' ⟨rfl, rfl⟩))
  go_ret2
  exact ⟨ret_two (by rw [Wd.toInt_]; exact Wd.sar_ _ _) rfl, rfl⟩

theorem do_35 (x y : BitVec 32) (w : World) : Calls Try.prog 29 #[.int .i64 35, .int .u32 (x.toNat : Int), .int .u32 (y.toNat : Int)] w fun e w' => e = .returned (.tuple #[.int .u32 ((Wd.run 35 x y).toNat : Int), .int .i64 0]) ∧ w' = w := by
  have hs := Wd.sh_lt y
  have hx := Wd.lt x
  have hy := Wd.lt y
  have hx1 := Wd.toInt_lo x
  have hx2 := Wd.toInt_hi x
  go_enter Try.func29, Try.ntmps29
  go_wp2_with (first | (go_at_call 52; refine (shift_any _ _).mono ?_; rintro e w' ⟨rfl, rfl⟩) | (go_at_call 53; refine (one_any _ _).mono ?_; rintro e w' ⟨rfl, rfl⟩) | (go_at_call 54; refine (high_any _ _).mono ?_; rintro e w' ⟨rfl, rfl⟩) | (go_at_call 55; refine (signed_any _ _).mono ?_; rintro e w' ⟨rfl, rfl⟩) | (go_at_call 56; refine (quot_any _ _ _).mono ?_; rintro e w' ⟨rfl, rfl⟩) | (go_at_call 57; refine (quotu_any _ _ _).mono ?_; rintro e w' ⟨rfl, rfl⟩) | (go_at_call 58; refine (rest_any _ _ _).mono ?_; rintro e w' ⟨rfl, rfl⟩) | (go_at_call 59; refine (restu_any _ _ _).mono ?_; rintro e w' ⟨rfl, rfl⟩))
  go_ret2
  exact ⟨ret_two (Wd.or_ x y) rfl, rfl⟩

theorem do_36 (x y : BitVec 32) (w : World) : Calls Try.prog 29 #[.int .i64 36, .int .u32 (x.toNat : Int), .int .u32 (y.toNat : Int)] w fun e w' => e = .returned (.tuple #[.int .u32 ((Wd.run 36 x y).toNat : Int), .int .i64 0]) ∧ w' = w := by
  have hs := Wd.sh_lt y
  have hx := Wd.lt x
  have hy := Wd.lt y
  have hx1 := Wd.toInt_lo x
  have hx2 := Wd.toInt_hi x
  go_enter Try.func29, Try.ntmps29
  go_wp2_with (first | (go_at_call 52; refine (shift_any _ _).mono ?_; rintro e w' ⟨rfl, rfl⟩) | (go_at_call 53; refine (one_any _ _).mono ?_; rintro e w' ⟨rfl, rfl⟩) | (go_at_call 54; refine (high_any _ _).mono ?_; rintro e w' ⟨rfl, rfl⟩) | (go_at_call 55; refine (signed_any _ _).mono ?_; rintro e w' ⟨rfl, rfl⟩) | (go_at_call 56; refine (quot_any _ _ _).mono ?_; rintro e w' ⟨rfl, rfl⟩) | (go_at_call 57; refine (quotu_any _ _ _).mono ?_; rintro e w' ⟨rfl, rfl⟩) | (go_at_call 58; refine (rest_any _ _ _).mono ?_; rintro e w' ⟨rfl, rfl⟩) | (go_at_call 59; refine (restu_any _ _ _).mono ?_; rintro e w' ⟨rfl, rfl⟩))
  go_ret2
  exact ⟨ret_two (Wd.and_ x y) rfl, rfl⟩

theorem do_37 (x y : BitVec 32) (w : World) : Calls Try.prog 29 #[.int .i64 37, .int .u32 (x.toNat : Int), .int .u32 (y.toNat : Int)] w fun e w' => e = .returned (.tuple #[.int .u32 ((Wd.run 37 x y).toNat : Int), .int .i64 0]) ∧ w' = w := by
  have hs := Wd.sh_lt y
  have hx := Wd.lt x
  have hy := Wd.lt y
  have hx1 := Wd.toInt_lo x
  have hx2 := Wd.toInt_hi x
  go_enter Try.func29, Try.ntmps29
  go_wp2_with (first | (go_at_call 52; refine (shift_any _ _).mono ?_; rintro e w' ⟨rfl, rfl⟩) | (go_at_call 53; refine (one_any _ _).mono ?_; rintro e w' ⟨rfl, rfl⟩) | (go_at_call 54; refine (high_any _ _).mono ?_; rintro e w' ⟨rfl, rfl⟩) | (go_at_call 55; refine (signed_any _ _).mono ?_; rintro e w' ⟨rfl, rfl⟩) | (go_at_call 56; refine (quot_any _ _ _).mono ?_; rintro e w' ⟨rfl, rfl⟩) | (go_at_call 57; refine (quotu_any _ _ _).mono ?_; rintro e w' ⟨rfl, rfl⟩) | (go_at_call 58; refine (rest_any _ _ _).mono ?_; rintro e w' ⟨rfl, rfl⟩) | (go_at_call 59; refine (restu_any _ _ _).mono ?_; rintro e w' ⟨rfl, rfl⟩))
  go_ret2
  exact ⟨ret_two (Wd.mul_ x y) rfl, rfl⟩

theorem do_38 (x y : BitVec 32) (w : World) : Calls Try.prog 29 #[.int .i64 38, .int .u32 (x.toNat : Int), .int .u32 (y.toNat : Int)] w fun e w' => e = .returned (.tuple #[.int .u32 ((Wd.run 38 x y).toNat : Int), .int .i64 0]) ∧ w' = w := by
  have hs := Wd.sh_lt y
  have hx := Wd.lt x
  have hy := Wd.lt y
  have hx1 := Wd.toInt_lo x
  have hx2 := Wd.toInt_hi x
  have hp := Wd.prod_in x y
  go_enter Try.func29, Try.ntmps29
  go_wp2_with (first | (go_at_call 52; refine (shift_any _ _).mono ?_; rintro e w' ⟨rfl, rfl⟩) | (go_at_call 53; refine (one_any _ _).mono ?_; rintro e w' ⟨rfl, rfl⟩) | (go_at_call 54; refine (high_any _ _).mono ?_; rintro e w' ⟨rfl, rfl⟩) | (go_at_call 55; refine (signed_any _ _).mono ?_; rintro e w' ⟨rfl, rfl⟩) | (go_at_call 56; refine (quot_any _ _ _).mono ?_; rintro e w' ⟨rfl, rfl⟩) | (go_at_call 57; refine (quotu_any _ _ _).mono ?_; rintro e w' ⟨rfl, rfl⟩) | (go_at_call 58; refine (rest_any _ _ _).mono ?_; rintro e w' ⟨rfl, rfl⟩) | (go_at_call 59; refine (restu_any _ _ _).mono ?_; rintro e w' ⟨rfl, rfl⟩))
  go_ret2
  exact ⟨ret_two rfl rfl, rfl⟩

theorem do_39 (x y : BitVec 32) (w : World) : Calls Try.prog 29 #[.int .i64 39, .int .u32 (x.toNat : Int), .int .u32 (y.toNat : Int)] w fun e w' => e = .returned (.tuple #[.int .u32 ((Wd.run 39 x y).toNat : Int), .int .i64 0]) ∧ w' = w := by
  have hs := Wd.sh_lt y
  have hx := Wd.lt x
  have hy := Wd.lt y
  have hx1 := Wd.toInt_lo x
  have hx2 := Wd.toInt_hi x
  have hp := Wd.prodsu_in x y
  go_enter Try.func29, Try.ntmps29
  go_wp2_with (first | (go_at_call 52; refine (shift_any _ _).mono ?_; rintro e w' ⟨rfl, rfl⟩) | (go_at_call 53; refine (one_any _ _).mono ?_; rintro e w' ⟨rfl, rfl⟩) | (go_at_call 54; refine (high_any _ _).mono ?_; rintro e w' ⟨rfl, rfl⟩) | (go_at_call 55; refine (signed_any _ _).mono ?_; rintro e w' ⟨rfl, rfl⟩) | (go_at_call 56; refine (quot_any _ _ _).mono ?_; rintro e w' ⟨rfl, rfl⟩) | (go_at_call 57; refine (quotu_any _ _ _).mono ?_; rintro e w' ⟨rfl, rfl⟩) | (go_at_call 58; refine (rest_any _ _ _).mono ?_; rintro e w' ⟨rfl, rfl⟩) | (go_at_call 59; refine (restu_any _ _ _).mono ?_; rintro e w' ⟨rfl, rfl⟩))
  go_ret2
  exact ⟨ret_two rfl rfl, rfl⟩

theorem do_40 (x y : BitVec 32) (w : World) : Calls Try.prog 29 #[.int .i64 40, .int .u32 (x.toNat : Int), .int .u32 (y.toNat : Int)] w fun e w' => e = .returned (.tuple #[.int .u32 ((Wd.run 40 x y).toNat : Int), .int .i64 0]) ∧ w' = w := by
  have hs := Wd.sh_lt y
  have hx := Wd.lt x
  have hy := Wd.lt y
  have hx1 := Wd.toInt_lo x
  have hx2 := Wd.toInt_hi x
  have hp := Wd.produu_in x y
  go_enter Try.func29, Try.ntmps29
  go_wp2_with (first | (go_at_call 52; refine (shift_any _ _).mono ?_; rintro e w' ⟨rfl, rfl⟩) | (go_at_call 53; refine (one_any _ _).mono ?_; rintro e w' ⟨rfl, rfl⟩) | (go_at_call 54; refine (high_any _ _).mono ?_; rintro e w' ⟨rfl, rfl⟩) | (go_at_call 55; refine (signed_any _ _).mono ?_; rintro e w' ⟨rfl, rfl⟩) | (go_at_call 56; refine (quot_any _ _ _).mono ?_; rintro e w' ⟨rfl, rfl⟩) | (go_at_call 57; refine (quotu_any _ _ _).mono ?_; rintro e w' ⟨rfl, rfl⟩) | (go_at_call 58; refine (rest_any _ _ _).mono ?_; rintro e w' ⟨rfl, rfl⟩) | (go_at_call 59; refine (restu_any _ _ _).mono ?_; rintro e w' ⟨rfl, rfl⟩))
  go_ret2
  exact ⟨ret_two (Wd.hi_uu x y) rfl, rfl⟩

theorem do_41 (x y : BitVec 32) (w : World) : Calls Try.prog 29 #[.int .i64 41, .int .u32 (x.toNat : Int), .int .u32 (y.toNat : Int)] w fun e w' => e = .returned (.tuple #[.int .u32 ((Wd.run 41 x y).toNat : Int), .int .i64 0]) ∧ w' = w := by
  have hs := Wd.sh_lt y
  have hx := Wd.lt x
  have hy := Wd.lt y
  have hx1 := Wd.toInt_lo x
  have hx2 := Wd.toInt_hi x
  go_enter Try.func29, Try.ntmps29
  go_wp2_with (first | (go_at_call 52; refine (shift_any _ _).mono ?_; rintro e w' ⟨rfl, rfl⟩) | (go_at_call 53; refine (one_any _ _).mono ?_; rintro e w' ⟨rfl, rfl⟩) | (go_at_call 54; refine (high_any _ _).mono ?_; rintro e w' ⟨rfl, rfl⟩) | (go_at_call 55; refine (signed_any _ _).mono ?_; rintro e w' ⟨rfl, rfl⟩) | (go_at_call 56; refine (quot_any _ _ _).mono ?_; rintro e w' ⟨rfl, rfl⟩) | (go_at_call 57; refine (quotu_any _ _ _).mono ?_; rintro e w' ⟨rfl, rfl⟩) | (go_at_call 58; refine (rest_any _ _ _).mono ?_; rintro e w' ⟨rfl, rfl⟩) | (go_at_call 59; refine (restu_any _ _ _).mono ?_; rintro e w' ⟨rfl, rfl⟩))
  go_ret2
  exact ⟨ret_two rfl rfl, rfl⟩

theorem do_42 (x y : BitVec 32) (w : World) : Calls Try.prog 29 #[.int .i64 42, .int .u32 (x.toNat : Int), .int .u32 (y.toNat : Int)] w fun e w' => e = .returned (.tuple #[.int .u32 ((Wd.run 42 x y).toNat : Int), .int .i64 0]) ∧ w' = w := by
  have hs := Wd.sh_lt y
  have hx := Wd.lt x
  have hy := Wd.lt y
  have hx1 := Wd.toInt_lo x
  have hx2 := Wd.toInt_hi x
  go_enter Try.func29, Try.ntmps29
  go_wp2_with (first | (go_at_call 52; refine (shift_any _ _).mono ?_; rintro e w' ⟨rfl, rfl⟩) | (go_at_call 53; refine (one_any _ _).mono ?_; rintro e w' ⟨rfl, rfl⟩) | (go_at_call 54; refine (high_any _ _).mono ?_; rintro e w' ⟨rfl, rfl⟩) | (go_at_call 55; refine (signed_any _ _).mono ?_; rintro e w' ⟨rfl, rfl⟩) | (go_at_call 56; refine (quot_any _ _ _).mono ?_; rintro e w' ⟨rfl, rfl⟩) | (go_at_call 57; refine (quotu_any _ _ _).mono ?_; rintro e w' ⟨rfl, rfl⟩) | (go_at_call 58; refine (rest_any _ _ _).mono ?_; rintro e w' ⟨rfl, rfl⟩) | (go_at_call 59; refine (restu_any _ _ _).mono ?_; rintro e w' ⟨rfl, rfl⟩))
  go_ret2
  exact ⟨ret_two rfl rfl, rfl⟩

theorem do_43 (x y : BitVec 32) (w : World) : Calls Try.prog 29 #[.int .i64 43, .int .u32 (x.toNat : Int), .int .u32 (y.toNat : Int)] w fun e w' => e = .returned (.tuple #[.int .u32 ((Wd.run 43 x y).toNat : Int), .int .i64 0]) ∧ w' = w := by
  have hs := Wd.sh_lt y
  have hx := Wd.lt x
  have hy := Wd.lt y
  have hx1 := Wd.toInt_lo x
  have hx2 := Wd.toInt_hi x
  go_enter Try.func29, Try.ntmps29
  go_wp2_with (first | (go_at_call 52; refine (shift_any _ _).mono ?_; rintro e w' ⟨rfl, rfl⟩) | (go_at_call 53; refine (one_any _ _).mono ?_; rintro e w' ⟨rfl, rfl⟩) | (go_at_call 54; refine (high_any _ _).mono ?_; rintro e w' ⟨rfl, rfl⟩) | (go_at_call 55; refine (signed_any _ _).mono ?_; rintro e w' ⟨rfl, rfl⟩) | (go_at_call 56; refine (quot_any _ _ _).mono ?_; rintro e w' ⟨rfl, rfl⟩) | (go_at_call 57; refine (quotu_any _ _ _).mono ?_; rintro e w' ⟨rfl, rfl⟩) | (go_at_call 58; refine (rest_any _ _ _).mono ?_; rintro e w' ⟨rfl, rfl⟩) | (go_at_call 59; refine (restu_any _ _ _).mono ?_; rintro e w' ⟨rfl, rfl⟩))
  go_ret2
  exact ⟨ret_two rfl rfl, rfl⟩

theorem do_44 (x y : BitVec 32) (w : World) : Calls Try.prog 29 #[.int .i64 44, .int .u32 (x.toNat : Int), .int .u32 (y.toNat : Int)] w fun e w' => e = .returned (.tuple #[.int .u32 ((Wd.run 44 x y).toNat : Int), .int .i64 0]) ∧ w' = w := by
  have hs := Wd.sh_lt y
  have hx := Wd.lt x
  have hy := Wd.lt y
  have hx1 := Wd.toInt_lo x
  have hx2 := Wd.toInt_hi x
  go_enter Try.func29, Try.ntmps29
  go_wp2_with (first | (go_at_call 52; refine (shift_any _ _).mono ?_; rintro e w' ⟨rfl, rfl⟩) | (go_at_call 53; refine (one_any _ _).mono ?_; rintro e w' ⟨rfl, rfl⟩) | (go_at_call 54; refine (high_any _ _).mono ?_; rintro e w' ⟨rfl, rfl⟩) | (go_at_call 55; refine (signed_any _ _).mono ?_; rintro e w' ⟨rfl, rfl⟩) | (go_at_call 56; refine (quot_any _ _ _).mono ?_; rintro e w' ⟨rfl, rfl⟩) | (go_at_call 57; refine (quotu_any _ _ _).mono ?_; rintro e w' ⟨rfl, rfl⟩) | (go_at_call 58; refine (rest_any _ _ _).mono ?_; rintro e w' ⟨rfl, rfl⟩) | (go_at_call 59; refine (restu_any _ _ _).mono ?_; rintro e w' ⟨rfl, rfl⟩))
  go_ret2
  exact ⟨ret_two rfl rfl, rfl⟩

theorem do_none (op : Int) (x y : BitVec 32) (w : World) (h : op < 27 ∨ 44 < op) : Calls Try.prog 29 #[.int .i64 op, .int .u32 (x.toNat : Int), .int .u32 (y.toNat : Int)] w fun e w' => e = .returned (.tuple #[.int .u32 0, .int .i64 1]) ∧ w' = w := by
  rcases h with h | h
  all_goals go_enter Try.func29, Try.ntmps29
  all_goals go_wp2
  all_goals go_ret2
  all_goals exact ⟨rfl, rfl⟩

theorem do_any (op : Int) (x y : BitVec 32) (w : World) : Calls Try.prog 29 #[.int .i64 op, .int .u32 (x.toNat : Int), .int .u32 (y.toNat : Int)] w fun e w' => e = .returned (.tuple #[.int .u32 ((Wd.run op x y).toNat : Int), .int .i64 (Wd.err op)]) ∧ w' = w := by
  by_cases h : 27 ≤ op ∧ op ≤ 44
  · have : op = 27 ∨ op = 28 ∨ op = 29 ∨ op = 30 ∨ op = 31 ∨ op = 32 ∨ op = 33 ∨ op = 34 ∨ op = 35 ∨ op = 36 ∨ op = 37 ∨ op = 38 ∨ op = 39 ∨ op = 40 ∨ op = 41 ∨ op = 42 ∨ op = 43 ∨ op = 44 := by omega
    clear h
    rcases this with rfl | rfl | rfl | rfl | rfl | rfl | rfl | rfl | rfl | rfl | rfl | rfl | rfl | rfl | rfl | rfl | rfl | rfl
    · exact do_27 x y w
    · exact do_28 x y w
    · exact do_29 x y w
    · exact do_30 x y w
    · exact do_31 x y w
    · exact do_32 x y w
    · exact do_33 x y w
    · exact do_34 x y w
    · exact do_35 x y w
    · exact do_36 x y w
    · exact do_37 x y w
    · exact do_38 x y w
    · exact do_39 x y w
    · exact do_40 x y w
    · exact do_41 x y w
    · exact do_42 x y w
    · exact do_43 x y w
    · exact do_44 x y w
  · have e1 : Wd.err op = 1 := by unfold Wd.err Wd.known; rw [if_neg (by rw [decide_eq_true_eq]; exact h)]
    have e2 : Wd.run op x y = (BitVec.ofNat 32 0) := by
      unfold Wd.run
      repeat rw [if_neg (by omega)]
    rw [e1, e2]
    exact do_none op x y w (by omega)
end Go.Proofs.Ythlefedljgmmfaa
namespace Go.Proofs.Ythlefedljgmmfaa
open Go.RowKit

theorem do_at (op a b : Int) (x y : BitVec 32) (ha : a = (x.toNat : Int)) (hb : b = (y.toNat : Int)) (w : World) : Calls Try.prog 29 #[.int .i64 op, .int .u32 a, .int .u32 b] w fun e w' => e = .returned (.tuple #[.int .u32 ((Wd.run op x y).toNat : Int), .int .i64 (Wd.err op)]) ∧ w' = w := by
  subst ha hb; exact do_any op x y w
end Go.Proofs.Ythlefedljgmmfaa
namespace Go.Proofs.Ythlefedljgmmfaa
end Go.Proofs.Ythlefedljgmmfaa
namespace Go.Proofs.Ythlefedljgmmfaa
open Go.RowKit
namespace Wd

theorem within_of (a n : Int) (h : 0 ≤ a ∧ a ≤ 31 ∧ 1 ≤ n ∧ n ≤ 32 ∧ a + n ≤ 32) : within a n = true := by unfold within; rw [decide_eq_true_eq]; exact h
theorem of_within {a n : Int} (h : within a n = true) : 0 ≤ a ∧ a ≤ 31 ∧ 1 ≤ n ∧ n ≤ 32 ∧ a + n ≤ 32 := of_decide_eq_true h

theorem field_get (w : BitVec 32) (a n : Int) (h : within a n = true) (i : Nat) (hi : i < 32) :
    (field w a n).getLsbD i = (decide (i < n.toNat) && w.getLsbD (a.toNat + i)) := by
  unfold field; rw [if_pos h, BitVec.getLsbD_and, BitVec.getLsbD_ushiftRight, mask_get _ _ hi, Bool.and_comm]
theorem put_get (w : BitVec 32) (a n : Int) (v : BitVec 32) (h : within a n = true) (i : Nat) (hi : i < 32) :
    (put w a n v).getLsbD i = if a.toNat ≤ i ∧ i < a.toNat + n.toNat then v.getLsbD (i - a.toNat) else w.getLsbD i := by
  have hb := of_within h
  unfold put
  rw [if_pos h, BitVec.getLsbD_or, BitVec.getLsbD_and, BitVec.getLsbD_not, BitVec.getLsbD_shiftLeft, BitVec.getLsbD_shiftLeft, BitVec.getLsbD_and]
  by_cases h1 : i < a.toNat
  · rw [if_neg (by omega)]; simp [h1, hi]
  · rw [mask_get _ _ (by omega)]
    by_cases h2 : i - a.toNat < n.toNat
    · rw [if_pos (by omega)]; simp [h1, h2, hi]
    · rw [if_neg (by omega)]; simp [h1, h2, hi]
theorem sign_get (w : BitVec 32) (n : Int) (h1 : 1 ≤ n) (h2 : n ≤ 31) (i : Nat) (hi : i < 32) :
    (sign w n).getLsbD i = w.getLsbD (min i (n.toNat - 1)) := by
  unfold sign; rw [if_pos ⟨h1, h2⟩]
  by_cases hb : w.getLsbD (n.toNat - 1) = true
  · rw [if_pos hb, BitVec.getLsbD_or, BitVec.getLsbD_not, mask_get _ _ hi]
    by_cases h : i < n.toNat
    · rw [show min i (n.toNat - 1) = i by omega]; simp [h]
    · rw [show min i (n.toNat - 1) = n.toNat - 1 by omega, hb]; simp [h, hi]
  · rw [if_neg hb, BitVec.getLsbD_and, mask_get _ _ hi]
    by_cases h : i < n.toNat
    · rw [show min i (n.toNat - 1) = i by omega]; simp [h]
    · rw [show min i (n.toNat - 1) = n.toNat - 1 by omega]; simp [h] at hb ⊢; exact hb
theorem field_whole (w : BitVec 32) : field w 0 32 = w := by
  apply BitVec.eq_of_getLsbD_eq; intro i hi
  rw [field_get w 0 32 (by decide) i hi]; simp [hi]
theorem field_low_lt (w : BitVec 32) (n : Int) (h1 : 1 ≤ n) (h2 : n ≤ 32) : ((field w 0 n).toNat : Int) < 2 ^ n.toNat := by
  have hw := within_of 0 n (by omega)
  unfold field; rw [if_pos hw, BitVec.toNat_and, mask_toNat _ (by omega), Nat.and_two_pow_sub_one_eq_mod]
  have : (w >>> (0 : Int).toNat).toNat % 2 ^ n.toNat < 2 ^ n.toNat := Nat.mod_lt _ (Nat.pow_pos (by decide))
  exact_mod_cast this
theorem and16 (c : Int) : ∃ d : Int, 0 ≤ d ∧ d ≤ 65535 ∧ bits .and .i64 c 65535 = d := by
  refine ⟨_, ?_, ?_, rfl⟩
  all_goals
    have e : bits .and .i64 c 65535 = IntKind.i64.wrap ((BitVec.ofInt 64 c &&& BitVec.ofInt 64 65535).toNat : Int) := rfl
    have m : (BitVec.ofInt 64 c &&& BitVec.ofInt 64 65535).toNat = (BitVec.ofInt 64 c).toNat % 65536 := by
      rw [BitVec.toNat_and]; exact Nat.and_two_pow_sub_one_eq_mod _ 16
    rw [e, m, IntKind.wrap_i64]; omega
theorem put_back (w v : BitVec 32) (k : Int) (h1 : 1 ≤ k) (h2 : k ≤ 31) :
    put (put v 0 k (field w 0 k)) k (32 - k) (field w k (32 - k)) = w := by
  have w1 := within_of 0 k (by omega)
  have w2 := within_of k (32 - k) (by omega)
  apply BitVec.eq_of_getLsbD_eq; intro i hi
  rw [put_get _ _ _ _ w2 i hi, put_get _ _ _ _ w1 i hi]
  by_cases h : i < k.toNat
  · rw [if_neg (by omega), if_pos (by simp; omega), field_get _ _ _ w1 _ (by simp; omega)]; simp [h]
  · rw [if_pos (by omega), field_get _ _ _ w2 _ (by omega)]
    rw [show k.toNat + (i - k.toNat) = i by omega, show decide (i - k.toNat < (32 - k).toNat) = true by rw [decide_eq_true_eq]; omega]; simp
theorem join (w : BitVec 32) (k : Int) (h1 : 1 ≤ k) (h2 : k ≤ 31) : (field w k (32 - k) <<< k.toNat) ||| field w 0 k = w := by
  have w1 := within_of 0 k (by omega)
  have w2 := within_of k (32 - k) (by omega)
  apply BitVec.eq_of_getLsbD_eq; intro i hi
  rw [BitVec.getLsbD_or, BitVec.getLsbD_shiftLeft, field_get _ _ _ w1 i hi]
  by_cases h : i < k.toNat
  · simp [h]
  · rw [field_get _ _ _ w2 _ (by omega), show k.toNat + (i - k.toNat) = i by omega, show decide (i - k.toNat < (32 - k).toNat) = true by rw [decide_eq_true_eq]; omega]
    simp [h, hi]
theorem field_put (w v : BitVec 32) (a n : Int) (h : within a n = true) : field (put w a n v) a n = field v 0 n := by
  have hb := of_within h
  have w1 := within_of 0 n (by omega)
  apply BitVec.eq_of_getLsbD_eq; intro i hi
  rw [field_get _ _ _ h i hi, field_get _ _ _ w1 i hi]
  by_cases h1 : i < n.toNat
  · rw [put_get _ _ _ _ h _ (by omega), if_pos (by omega), show a.toNat + i - a.toNat = i by omega]; simp
  · simp [h1]
theorem put_again (w v : BitVec 32) (a n : Int) (h : within a n = true) : put (put w a n v) a n (field w a n) = w := by
  have hb := of_within h
  apply BitVec.eq_of_getLsbD_eq; intro i hi
  rw [put_get _ _ _ _ h i hi]
  by_cases h1 : a.toNat ≤ i ∧ i < a.toNat + n.toNat
  · rw [if_pos h1, field_get _ _ _ h _ (by omega), show a.toNat + (i - a.toNat) = i by omega, show decide (i - a.toNat < n.toNat) = true by rw [decide_eq_true_eq]; omega]; simp
  · rw [if_neg h1, put_get _ _ _ _ h i hi, if_neg h1]
theorem sign_field (v : BitVec 32) (n : Int) (h1 : 1 ≤ n) (h2 : n ≤ 31) : sign v n = sign (field v 0 n) n := by
  have w1 := within_of 0 n (by omega)
  apply BitVec.eq_of_getLsbD_eq; intro i hi
  rw [sign_get _ _ h1 h2 i hi, sign_get _ _ h1 h2 i hi, field_get _ _ _ w1 _ (by omega)]
  rw [show decide (min i (n.toNat - 1) < n.toNat) = true by rw [decide_eq_true_eq]; omega]; simp
theorem field_sign (v : BitVec 32) (n : Int) (h1 : 1 ≤ n) (h2 : n ≤ 31) : field (sign v n) 0 n = field v 0 n := by
  have w1 := within_of 0 n (by omega)
  apply BitVec.eq_of_getLsbD_eq; intro i hi
  rw [field_get _ _ _ w1 i hi, field_get _ _ _ w1 i hi]
  by_cases h : i < n.toNat
  · rw [sign_get _ _ h1 h2 _ (by simp; omega), show min ((0 : Int).toNat + i) (n.toNat - 1) = (0 : Int).toNat + i by simp; omega]
  · simp [h]
theorem toNat_natCast_inj (a b : Nat) : ((a : Int) = (b : Int)) = (a = b) := propext Int.natCast_inj
end Wd
end Go.Proofs.Ythlefedljgmmfaa
