/-
  The walk of WordDivides: it answers true of any two words.
-/
import Derived.Test.YtbjfkpmhcegimaaF
namespace Go.Proofs.Ytbjfkpmhcegimaa
open Go.RowKit

theorem divu_back (a b : BitVec 32) (h : b ≠ (BitVec.ofNat 32 0)) : Wd.quotu a b * b + Wd.restu a b = a := by
  unfold Wd.quotu Wd.restu; rw [if_neg h, if_neg h]
  apply BitVec.eq_of_toNat_eq
  rw [BitVec.toNat_add, BitVec.toNat_mul, BitVec.toNat_udiv, BitVec.toNat_umod]
  have e := Nat.div_add_mod a.toNat b.toNat
  have c := Nat.mul_comm b.toNat (a.toNat / b.toNat)
  have := a.isLt
  rw [Nat.mod_add_mod, ← c, e]
  exact Nat.mod_eq_of_lt this
theorem div_back (a b : BitVec 32) (h : b ≠ (BitVec.ofNat 32 0)) : Wd.quot a b * b + Wd.rest a b = a := by
  unfold Wd.quot Wd.rest; rw [if_neg h, if_neg h]
  have e := Int.tmod_add_mul_tdiv a.toInt b.toInt
  have hb : b = BitVec.ofInt 32 b.toInt := (BitVec.ofInt_toInt).symm
  have ha : a = BitVec.ofInt 32 a.toInt := (BitVec.ofInt_toInt).symm
  conv => lhs; lhs; rhs; rw [hb]
  rw [← BitVec.ofInt_mul, ← BitVec.ofInt_add]
  rw [Int.mul_comm, Int.add_comm, e, ← ha]
theorem restu_lt (a b : BitVec 32) (h : b ≠ (BitVec.ofNat 32 0)) : ((Wd.restu a b).toNat : Int) < (b.toNat : Int) := by
  unfold Wd.restu; rw [if_neg h, BitVec.toNat_umod]
  have : b.toNat ≠ 0 := by intro e; exact h (BitVec.eq_of_toNat_eq e)
  have := Nat.mod_lt a.toNat (Nat.pos_of_ne_zero this)
  omega
theorem rest_sign (a b : BitVec 32) (h : b ≠ (BitVec.ofNat 32 0)) : ((Wd.rest a b).toNat : Int) = 0 ∨ ((Wd.rest a b).toNat : Int) / 2147483648 = (a.toNat : Int) / 2147483648 := by
  unfold Wd.rest; rw [if_neg h]
  have h1 := Wd.toInt_lo a; have h2 := Wd.toInt_hi a
  have m1 : (a.toInt.tmod b.toInt).natAbs ≤ a.toInt.natAbs := by
    rw [Int.natAbs_tmod]; exact Nat.mod_le _ _
  have c := Wd.cut_ (a.toInt.tmod b.toInt)
  have ea : a.toInt = if 2 * a.toNat < 2 ^ 32 then (a.toNat : Int) else (a.toNat : Int) - (2 ^ 32 : Nat) := BitVec.toInt_eq_toNat_cond a
  have := a.isLt
  have sg : (0 ≤ a.toInt → 0 ≤ a.toInt.tmod b.toInt) ∧ (a.toInt ≤ 0 → a.toInt.tmod b.toInt ≤ 0) := by
    constructor
    · intro h; exact Int.tmod_nonneg _ h
    · intro h
      have e : (-a.toInt).tmod b.toInt = -(a.toInt.tmod b.toInt) := Int.neg_tmod ..
      have := Int.tmod_nonneg b.toInt (a := -a.toInt) (by omega)
      omega
  rw [← c]
  generalize a.toInt.tmod b.toInt = m at *
  generalize a.toInt = A at *
  split at ea <;> omega

theorem wordDivides_walk (a b : BitVec 32) (w : World) : Calls Try.prog 6 #[.int .u32 (a.toNat : Int), .int .u32 (b.toNat : Int)] w fun e w' => e = .returned (.bool true) ∧ ∃ k, w' = w.drewN k := by
  by_cases h : ((b.toNat : Int) == 0) = true
  · have e := Wd.eq0 b h
    have t1 : (((Wd.does 41 a b).toNat : Int) == 4294967295) = true := Wd.beq_lit (y := (BitVec.ofNat 32 4294967295)) (by rw [Wd.does_41]; unfold Wd.quot; rw [if_pos e]) rfl
    have t2 : (((Wd.does 42 a b).toNat : Int) == ((Wd.does 41 a b).toNat : Int)) = true := Wd.beq_of (by rw [Wd.does_41, Wd.does_42]; unfold Wd.quot Wd.quotu; rw [if_pos e, if_pos e])
    have t3 : (((Wd.does 43 a b).toNat : Int) == (a.toNat : Int)) = true := Wd.beq_of (by rw [Wd.does_43]; unfold Wd.rest; rw [if_pos e])
    have t4 : (((Wd.does 44 a b).toNat : Int) == (a.toNat : Int)) = true := Wd.beq_of (by rw [Wd.does_44]; unfold Wd.restu; rw [if_pos e])
    clear e
    go_enter Try.func6, Try.ntmps6
    go_wp2_with fail
    refine (does_at 41 _ _ a b rfl rfl _).mono ?_
    rintro e w1 ⟨rfl, rfl⟩
    go_wp2_with fail
    refine (does_at 43 _ _ a b rfl rfl _).mono ?_
    rintro e w1 ⟨rfl, rfl⟩
    go_wp2_with fail
    refine (does_at 42 _ _ a b rfl rfl _).mono ?_
    rintro e w1 ⟨rfl, rfl⟩
    go_wp2_with fail
    refine (does_at 44 _ _ a b rfl rfl _).mono ?_
    rintro e w1 ⟨rfl, rfl⟩
    go_wp2_with fail
    refine (fixed_any _).mono ?_
    rintro e w1 ⟨rfl, k, rfl⟩
    go_wp2_with fail
    go_ret
    exact ⟨rfl, _, rfl⟩
  · have h' : ((b.toNat : Int) == 0) = false := by simpa using h
    have e := Wd.ne0 b h'
    have t1 : (((Wd.does 27 (Wd.does 37 (Wd.does 41 a b) b) (Wd.does 43 a b)).toNat : Int) == (a.toNat : Int)) = true := Wd.beq_of (by rw [Wd.does_27, Wd.does_37, Wd.does_41, Wd.does_43]; exact div_back a b e)
    have e2 : ((((Wd.does 42 a b).toNat : Int) * (b.toNat : Int)) % 4294967296 + ((Wd.does 44 a b).toNat : Int)) % 4294967296 = (a.toNat : Int) := by
      rw [Wd.mul_, Wd.add_, Wd.does_42, Wd.does_44, divu_back a b e]
    have t3 : ((Wd.does 44 a b).toNat : Int) < (b.toNat : Int) := restu_lt a b e
    have t4 : ((Wd.does 43 a b).toNat : Int) = 0 ∨ ((Wd.does 43 a b).toNat : Int) / 2147483648 = (a.toNat : Int) / 2147483648 := rest_sign a b e
    clear e h
    by_cases z : (((Wd.does 43 a b).toNat : Int) == 0) = true
    · clear t4
      go_enter Try.func6, Try.ntmps6
      go_wp2_with fail
      refine (does_at 41 _ _ a b rfl rfl _).mono ?_
      rintro e w1 ⟨rfl, rfl⟩
      go_wp2_with fail
      refine (does_at 43 _ _ a b rfl rfl _).mono ?_
      rintro e w1 ⟨rfl, rfl⟩
      go_wp2_with fail
      refine (does_at 42 _ _ a b rfl rfl _).mono ?_
      rintro e w1 ⟨rfl, rfl⟩
      go_wp2_with fail
      refine (does_at 44 _ _ a b rfl rfl _).mono ?_
      rintro e w1 ⟨rfl, rfl⟩
      go_wp2_with fail
      refine (does_at 37 _ _ (Wd.does 41 a b) b rfl rfl _).mono ?_
      rintro e w1 ⟨rfl, rfl⟩
      go_wp2_with fail
      refine (does_at 27 _ _ (Wd.does 37 (Wd.does 41 a b) b) (Wd.does 43 a b) rfl rfl _).mono ?_
      rintro e w1 ⟨rfl, rfl⟩
      go_wp2_with fail
      refine (fixed_any _).mono ?_
      rintro e w1 ⟨rfl, k, rfl⟩
      go_wp2_with fail
      go_ret
      exact ⟨rfl, _, rfl⟩
    · have z0 : (((Wd.does 43 a b).toNat : Int) == 0) = false := by simpa using z
      have z1 : (((Wd.does 43 a b).toNat : Int) / 2147483648 == (a.toNat : Int) / 2147483648) = true := by
        rw [beq_iff_eq]
        rcases t4 with t4 | t4
        · exact absurd (beq_iff_eq.2 t4) z
        · exact t4
      clear t4 z
      go_enter Try.func6, Try.ntmps6
      go_wp2_with fail
      refine (does_at 41 _ _ a b rfl rfl _).mono ?_
      rintro e w1 ⟨rfl, rfl⟩
      go_wp2_with fail
      refine (does_at 43 _ _ a b rfl rfl _).mono ?_
      rintro e w1 ⟨rfl, rfl⟩
      go_wp2_with fail
      refine (does_at 42 _ _ a b rfl rfl _).mono ?_
      rintro e w1 ⟨rfl, rfl⟩
      go_wp2_with fail
      refine (does_at 44 _ _ a b rfl rfl _).mono ?_
      rintro e w1 ⟨rfl, rfl⟩
      go_wp2_with fail
      refine (does_at 37 _ _ (Wd.does 41 a b) b rfl rfl _).mono ?_
      rintro e w1 ⟨rfl, rfl⟩
      go_wp2_with fail
      refine (does_at 27 _ _ (Wd.does 37 (Wd.does 41 a b) b) (Wd.does 43 a b) rfl rfl _).mono ?_
      rintro e w1 ⟨rfl, rfl⟩
      go_wp2_with fail
      refine (fixed_any _).mono ?_
      rintro e w1 ⟨rfl, k, rfl⟩
      go_wp2_with fail
      go_ret
      exact ⟨rfl, _, rfl⟩
end Go.Proofs.Ytbjfkpmhcegimaa
