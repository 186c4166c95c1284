/-
  The walk of WordProducts: it answers true of any two words.
-/
import Derived.Test.YtbjfkpmhcegimaaF
import Derived.Test.YtbjfkpmhcegimaaM2
namespace Go.Proofs.Ytbjfkpmhcegimaa
open Go.RowKit

theorem hi_sub (p c : Int) : Wd.hi (p - 4294967296 * c) = Wd.hi p - BitVec.ofInt 32 c := by
  unfold Wd.hi
  apply BitVec.eq_of_toNat_eq
  rw [← Wd.toNat_natCast_inj, ← Wd.sub_, ← Wd.cut_, ← Wd.cut_, ← Wd.cut_]
  omega
theorem hi_nat (a b : BitVec 32) : Wd.hi ((a.toNat : Int) * (b.toNat : Int)) = Wd.does 40 a b := by
  rw [Wd.does_40]; unfold Wd.hi
  apply BitVec.eq_of_toNat_eq
  rw [← Wd.toNat_natCast_inj, ← Wd.cut_, ← Wd.hi_uu]
  have h := Wd.produu_in a b
  omega
theorem ofInt_nat (b : BitVec 32) : BitVec.ofInt 32 (b.toNat : Int) = b := by
  apply BitVec.eq_of_toNat_eq
  rw [← Wd.toNat_natCast_inj, ← Wd.cut_]
  have := b.isLt
  omega
theorem toInt_neg (a : BitVec 32) (h : (a.toNat : Int) / 2147483648 = 1) : a.toInt = (a.toNat : Int) - 4294967296 := by
  rw [BitVec.toInt_eq_toNat_cond]; split <;> omega
theorem toInt_pos (a : BitVec 32) (h : ¬ (a.toNat : Int) / 2147483648 = 1) : a.toInt = (a.toNat : Int) := by
  have := a.isLt
  rw [BitVec.toInt_eq_toNat_cond]; split <;> omega
theorem su_neg (a b : BitVec 32) (h : (a.toNat : Int) / 2147483648 = 1) : Wd.does 39 a b = Wd.does 40 a b - b := by
  rw [Wd.does_39, toInt_neg a h, Int.sub_mul, hi_sub, hi_nat, ofInt_nat]
theorem su_pos (a b : BitVec 32) (h : ¬ (a.toNat : Int) / 2147483648 = 1) : Wd.does 39 a b = Wd.does 40 a b := by
  rw [Wd.does_39, toInt_pos a h, hi_nat]
theorem ss_pos (a b : BitVec 32) (h : ¬ (b.toNat : Int) / 2147483648 = 1) : Wd.does 38 a b = Wd.does 39 a b := by
  rw [Wd.does_38, Wd.does_39, toInt_pos b h]
theorem ss_neg (a b : BitVec 32) (h : (b.toNat : Int) / 2147483648 = 1) : Wd.does 38 a b = Wd.does 39 a b - a := by
  rw [Wd.does_38, Wd.does_39, toInt_neg b h, Int.mul_sub, Int.mul_comm a.toInt 4294967296, hi_sub, BitVec.ofInt_toInt]

theorem whole (a b : BitVec 32) : bits .or .u64 (((Wd.does 40 a b).toNat : Int) * 4294967296) ((Wd.does 37 a b).toNat : Int) = (a.toNat : Int) * (b.toNat : Int) := by
  have hp := Wd.produu_in a b
  rw [Wd.does_40, Wd.does_37, ← Wd.hi_uu, ← Wd.mul_, ← Int.natCast_mul]
  rw [← Int.natCast_mul] at hp
  generalize a.toNat * b.toNat = P at *
  have e1 : (P : Int) / 4294967296 * 4294967296 = ((P / 4294967296 * 4294967296 : Nat) : Int) := by omega
  have e2 : (P : Int) % 4294967296 = ((P % 4294967296 : Nat) : Int) := by omega
  rw [e1, e2, u64_or_nat _ _ (by omega) (by omega)]
  have h := Nat.shiftLeft_add_eq_or_of_lt (i := 32) (b := P % 4294967296) (by omega) (P / 4294967296)
  rw [Nat.shiftLeft_eq] at h
  have h2 : P / 4294967296 * 4294967296 ||| P % 4294967296 = P / 4294967296 * 4294967296 + P % 4294967296 := h.symm
  rw [h2]; omega
theorem m_a (a b : BitVec 32) (x : BitVec 32) (h : x = Wd.does 40 a b - b) : ((x.toNat : Int) == (((Wd.does 40 a b).toNat : Int) - (b.toNat : Int)) % 4294967296) = true := by
  rw [h, Wd.sub_]; exact beq_self_eq_true _
theorem m_ab (a b : BitVec 32) (x : BitVec 32) (h : x = Wd.does 40 a b - b - a) : ((x.toNat : Int) == (((Wd.does 40 a b).toNat : Int) - (b.toNat : Int) - (a.toNat : Int)) % 4294967296) = true := by
  rw [h, ← Wd.sub_, ← Wd.sub_]; rw [beq_iff_eq]; omega

theorem wordProducts_walk (a b : BitVec 32) (w : World) : Calls Try.prog 7 #[.int .u32 (a.toNat : Int), .int .u32 (b.toNat : Int)] w fun e w' => e = .returned (.bool true) ∧ ∃ k, w' = w.drewN k := by
  have hp := Wd.produu_in a b
  have e1 := whole a b
  by_cases h : ((a.toNat : Int) / 2147483648 == 1) = true
  · have g := beq_iff_eq.1 h
    by_cases h2 : ((b.toNat : Int) / 2147483648 == 1) = true
    · have g2 := beq_iff_eq.1 h2
      have tx := m_a a b _ (su_neg a b g)
      have ty := m_ab a b (Wd.does 38 a b) (by rw [ss_neg a b g2, su_neg a b g])
      clear g g2
      go_enter Try.func7, Try.ntmps7
      go_wp2_with fail
      refine (does_at 40 _ _ a b rfl rfl _).mono ?_
      rintro e w1 ⟨rfl, rfl⟩
      go_wp2_with fail
      refine (does_at 37 _ _ a b rfl rfl _).mono ?_
      rintro e w1 ⟨rfl, rfl⟩
      go_wp2_with fail
      refine (does_at 39 _ _ a b rfl rfl _).mono ?_
      rintro e w1 ⟨rfl, rfl⟩
      go_wp2_with fail
      refine (does_at 38 _ _ a b rfl rfl _).mono ?_
      rintro e w1 ⟨rfl, rfl⟩
      go_wp2_with fail
      refine (fixed_any _).mono ?_
      rintro e w1 ⟨rfl, k, rfl⟩
      go_wp2_with fail
      go_ret
      exact ⟨rfl, _, rfl⟩
    · have g2 : ¬ (b.toNat : Int) / 2147483648 = 1 := fun e => h2 (beq_iff_eq.2 e)
      have h3 : ((b.toNat : Int) / 2147483648 == 1) = false := by simpa using h2
      have tx := m_a a b _ (su_neg a b g)
      have ty := m_a a b (Wd.does 38 a b) (by rw [ss_pos a b g2, su_neg a b g])
      clear g g2 h2
      go_enter Try.func7, Try.ntmps7
      go_wp2_with fail
      refine (does_at 40 _ _ a b rfl rfl _).mono ?_
      rintro e w1 ⟨rfl, rfl⟩
      go_wp2_with fail
      refine (does_at 37 _ _ a b rfl rfl _).mono ?_
      rintro e w1 ⟨rfl, rfl⟩
      go_wp2_with fail
      refine (does_at 39 _ _ a b rfl rfl _).mono ?_
      rintro e w1 ⟨rfl, rfl⟩
      go_wp2_with fail
      refine (does_at 38 _ _ a b rfl rfl _).mono ?_
      rintro e w1 ⟨rfl, rfl⟩
      go_wp2_with fail
      refine (fixed_any _).mono ?_
      rintro e w1 ⟨rfl, k, rfl⟩
      go_wp2_with fail
      go_ret
      exact ⟨rfl, _, rfl⟩
  · have g : ¬ (a.toNat : Int) / 2147483648 = 1 := fun e => h (beq_iff_eq.2 e)
    have h4 : ((a.toNat : Int) / 2147483648 == 1) = false := by simpa using h
    clear h
    by_cases h2 : ((b.toNat : Int) / 2147483648 == 1) = true
    · have g2 := beq_iff_eq.1 h2
      have tx := Wd.beq_of (su_pos a b g)
      have ty : (((Wd.does 38 a b).toNat : Int) == (((Wd.does 40 a b).toNat : Int) - (a.toNat : Int)) % 4294967296) = true := by
        rw [ss_neg a b g2, su_pos a b g, Wd.sub_]; exact beq_self_eq_true _
      clear g g2
      go_enter Try.func7, Try.ntmps7
      go_wp2_with fail
      refine (does_at 40 _ _ a b rfl rfl _).mono ?_
      rintro e w1 ⟨rfl, rfl⟩
      go_wp2_with fail
      refine (does_at 37 _ _ a b rfl rfl _).mono ?_
      rintro e w1 ⟨rfl, rfl⟩
      go_wp2_with fail
      refine (does_at 39 _ _ a b rfl rfl _).mono ?_
      rintro e w1 ⟨rfl, rfl⟩
      go_wp2_with fail
      refine (does_at 38 _ _ a b rfl rfl _).mono ?_
      rintro e w1 ⟨rfl, rfl⟩
      go_wp2_with fail
      refine (fixed_any _).mono ?_
      rintro e w1 ⟨rfl, k, rfl⟩
      go_wp2_with fail
      go_ret
      exact ⟨rfl, _, rfl⟩
    · have g2 : ¬ (b.toNat : Int) / 2147483648 = 1 := fun e => h2 (beq_iff_eq.2 e)
      have h3 : ((b.toNat : Int) / 2147483648 == 1) = false := by simpa using h2
      have tx := Wd.beq_of (su_pos a b g)
      have ty := Wd.beq_of ((ss_pos a b g2).trans (su_pos a b g))
      clear g g2 h2
      go_enter Try.func7, Try.ntmps7
      go_wp2_with fail
      refine (does_at 40 _ _ a b rfl rfl _).mono ?_
      rintro e w1 ⟨rfl, rfl⟩
      go_wp2_with fail
      refine (does_at 37 _ _ a b rfl rfl _).mono ?_
      rintro e w1 ⟨rfl, rfl⟩
      go_wp2_with fail
      refine (does_at 39 _ _ a b rfl rfl _).mono ?_
      rintro e w1 ⟨rfl, rfl⟩
      go_wp2_with fail
      refine (does_at 38 _ _ a b rfl rfl _).mono ?_
      rintro e w1 ⟨rfl, rfl⟩
      go_wp2_with fail
      refine (fixed_any _).mono ?_
      rintro e w1 ⟨rfl, k, rfl⟩
      go_wp2_with fail
      go_ret
      exact ⟨rfl, _, rfl⟩
end Go.Proofs.Ytbjfkpmhcegimaa
