/-
  The walk of WordShifts: it answers true of any two words.
-/
import Derived.Test.YtbjfkpmhcegimaaF
import Derived.Test.YtbjfkpmhcegimaaM2
namespace Go.Proofs.Ytbjfkpmhcegimaa
open Go.RowKit

theorem low_of (a : BitVec 32) (k : Nat) (h : k < 32) : (a <<< k) >>> k = Wd.field a 0 (32 - (k : Int)) := by
  have hw := Wd.within_of 0 (32 - (k : Int)) (by omega)
  apply BitVec.eq_of_getLsbD_eq; intro i hi
  rw [Wd.field_get _ _ _ hw i hi, BitVec.getLsbD_ushiftRight, BitVec.getLsbD_shiftLeft]
  by_cases h1 : i < 32 - k
  · rw [show decide (i < (32 - (k : Int)).toNat) = true by rw [decide_eq_true_eq]; omega, show k + i - k = i by omega]
    simp; omega
  · rw [show decide (i < (32 - (k : Int)).toNat) = false by rw [decide_eq_false_iff_not]; omega]
    simp; omega
theorem high_of (a : BitVec 32) (k : Nat) (h : k < 32) : (a >>> k) <<< k = Wd.put a 0 (k : Int) (BitVec.ofNat 32 0) := by
  by_cases h0 : k = 0
  · subst h0; simp [Wd.put, Wd.within]
  · have hw := Wd.within_of 0 (k : Int) (by omega)
    apply BitVec.eq_of_getLsbD_eq; intro i hi
    rw [Wd.put_get _ _ _ _ hw i hi, BitVec.getLsbD_shiftLeft, BitVec.getLsbD_ushiftRight]
    by_cases h1 : i < k
    · rw [if_pos (by simp; omega)]; simp [h1]
    · rw [if_neg (by simp; omega), show k + (i - k) = i by omega]; simp [hi, h1]
theorem sar_pos (a : BitVec 32) (k : Nat) (h : ¬ (a.toNat : Int) / 2147483648 = 1) : a.sshiftRight k = a >>> k := by
  have hm : a.msb = false := by
    rw [BitVec.msb_eq_decide, decide_eq_false_iff_not]; have := a.isLt; omega
  exact BitVec.sshiftRight_eq_of_msb_false hm
theorem sar_not (a : BitVec 32) (k : Nat) : a.sshiftRight k = ~~~ ((~~~ a).sshiftRight k) := by
  apply BitVec.eq_of_getLsbD_eq; intro i hi
  rw [BitVec.getLsbD_not, BitVec.getLsbD_sshiftRight, BitVec.getLsbD_sshiftRight]
  by_cases h : k + i < 32
  · have h3 : ¬ 32 ≤ i := by omega
    simp [h, h3, hi]
  · have h2 : ¬ 32 ≤ i := by omega
    simp [h, h2, hi]
theorem sh_and (b : BitVec 32) : Wd.sh (b &&& (BitVec.ofNat 32 31)) = Wd.sh b ∧ (b &&& (BitVec.ofNat 32 31)).toNat = Wd.sh b := by
  have e : (b &&& (BitVec.ofNat 32 31)).toNat = b.toNat % 32 := by
    rw [BitVec.toNat_and]; exact Nat.and_two_pow_sub_one_eq_mod b.toNat 5
  constructor
  · unfold Wd.sh; rw [e]; omega
  · exact e

theorem wordShifts_walk (a b : BitVec 32) (w : World) : Calls Try.prog 8 #[.int .u32 (a.toNat : Int), .int .u32 (b.toNat : Int)] w fun e w' => e = .returned (.bool true) ∧ ∃ k, w' = w.drewN k := by
  obtain ⟨K, hK, HK⟩ : ∃ K : BitVec 32, bits .and .u32 (b.toNat : Int) 31 = (K.toNat : Int) ∧ Hid (K = b &&& (BitVec.ofNat 32 31)) := ⟨_, Wd.and_ b (BitVec.ofNat 32 31), rfl⟩
  obtain ⟨N, hN, HN⟩ : ∃ N : BitVec 32, bits .xor .u32 IntKind.u32.max (a.toNat : Int) = (N.toNat : Int) ∧ Hid (N = ~~~ a) := ⟨_, Wd.notm_ a, rfl⟩
  obtain ⟨O, hO, HO⟩ : ∃ O : BitVec 32, bits .xor .u32 IntKind.u32.max ((Wd.does 34 N b).toNat : Int) = (O.toNat : Int) ∧ Hid (O = ~~~ (Wd.does 34 N b)) := ⟨_, Wd.notm_ _, rfl⟩
  have k1 : Wd.sh K = Wd.sh b := by rw [HK.out]; exact (sh_and b).1
  have k2 : K.toNat = Wd.sh b := by rw [HK.out]; exact (sh_and b).2
  have k3 := Wd.sh_lt b
  have kb : (K.toNat : Int) < 32 := by omega
  have t1 : (((Wd.does 29 a K).toNat : Int) != ((Wd.does 29 a b).toNat : Int)) = false := Wd.bne_of (by rw [Wd.does_29, Wd.does_29, k1])
  have t2 : (((Wd.does 33 a K).toNat : Int) != ((Wd.does 33 a b).toNat : Int)) = false := Wd.bne_of (by rw [Wd.does_33, Wd.does_33, k1])
  have t3 : (((Wd.does 33 (Wd.does 29 a b) b).toNat : Int) != ((Wd.field a 0 (32 - (K.toNat : Int))).toNat : Int)) = false := Wd.bne_of (by rw [Wd.does_33, Wd.does_29, k2]; exact low_of a _ k3)
  have t4 : (((Wd.does 29 (Wd.does 33 a b) b).toNat : Int) != ((Wd.put a 0 (K.toNat : Int) (BitVec.ofNat 32 0)).toNat : Int)) = false := Wd.bne_of (by rw [Wd.does_33, Wd.does_29, k2]; exact high_of a _ k3)
  have t6 : (((Wd.does 34 a b).toNat : Int) == (O.toNat : Int)) = true := Wd.beq_of (by rw [HO.out, HN.out, Wd.does_34, Wd.does_34]; exact sar_not a _)
  clear k1 k2 k3
  by_cases h : ((a.toNat : Int) / 2147483648 == 1) = true
  · go_enter Try.func8, Try.ntmps8
    go_wp2_with fail
    refine (does_at 29 _ _ a b rfl rfl _).mono ?_
    rintro e w1 ⟨rfl, rfl⟩
    go_wp2_with fail
    refine (does_at 33 _ _ a b rfl rfl _).mono ?_
    rintro e w1 ⟨rfl, rfl⟩
    go_wp2_with fail
    refine (does_at 29 _ _ a K rfl rfl _).mono ?_
    rintro e w1 ⟨rfl, rfl⟩
    go_wp2_with fail
    refine (does_at 33 _ _ a K rfl rfl _).mono ?_
    rintro e w1 ⟨rfl, rfl⟩
    go_wp2_with fail
    refine (does_at 33 _ _ (Wd.does 29 a b) b rfl rfl _).mono ?_
    rintro e w1 ⟨rfl, rfl⟩
    go_wp2_with fail
    refine (field_any a 0 (32 - (K.toNat : Int)) _).mono ?_
    rintro e w1 ⟨rfl, k, rfl⟩
    go_wp2_with fail
    refine (does_at 29 _ _ (Wd.does 33 a b) b rfl rfl _).mono ?_
    rintro e w1 ⟨rfl, rfl⟩
    go_wp2_with fail
    refine (put_at _ 0 _ 0 a (BitVec.ofNat 32 0) rfl rfl _).mono ?_
    rintro e w1 ⟨rfl, k, rfl⟩
    go_wp2_with fail
    refine (does_at 34 _ _ a b rfl rfl _).mono ?_
    rintro e w1 ⟨rfl, rfl⟩
    go_wp2_with fail
    refine (does_at 34 _ _ N b rfl rfl _).mono ?_
    rintro e w1 ⟨rfl, rfl⟩
    go_wp2_with fail
    refine (fixed_any _).mono ?_
    rintro e w1 ⟨rfl, k, rfl⟩
    go_wp2_with fail
    go_ret
    exact ⟨rfl, _, rfl⟩
  · have g : ¬ (a.toNat : Int) / 2147483648 = 1 := fun e => h (beq_iff_eq.2 e)
    have h4 : ((a.toNat : Int) / 2147483648 == 1) = false := by simpa using h
    have t5 : (((Wd.does 34 a b).toNat : Int) == ((Wd.does 33 a b).toNat : Int)) = true := Wd.beq_of (by rw [Wd.does_34, Wd.does_33]; exact sar_pos a _ g)
    clear g h
    go_enter Try.func8, Try.ntmps8
    go_wp2_with fail
    refine (does_at 29 _ _ a b rfl rfl _).mono ?_
    rintro e w1 ⟨rfl, rfl⟩
    go_wp2_with fail
    refine (does_at 33 _ _ a b rfl rfl _).mono ?_
    rintro e w1 ⟨rfl, rfl⟩
    go_wp2_with fail
    refine (does_at 29 _ _ a K rfl rfl _).mono ?_
    rintro e w1 ⟨rfl, rfl⟩
    go_wp2_with fail
    refine (does_at 33 _ _ a K rfl rfl _).mono ?_
    rintro e w1 ⟨rfl, rfl⟩
    go_wp2_with fail
    refine (does_at 33 _ _ (Wd.does 29 a b) b rfl rfl _).mono ?_
    rintro e w1 ⟨rfl, rfl⟩
    go_wp2_with fail
    refine (field_any a 0 (32 - (K.toNat : Int)) _).mono ?_
    rintro e w1 ⟨rfl, k, rfl⟩
    go_wp2_with fail
    refine (does_at 29 _ _ (Wd.does 33 a b) b rfl rfl _).mono ?_
    rintro e w1 ⟨rfl, rfl⟩
    go_wp2_with fail
    refine (put_at _ 0 _ 0 a (BitVec.ofNat 32 0) rfl rfl _).mono ?_
    rintro e w1 ⟨rfl, k, rfl⟩
    go_wp2_with fail
    refine (does_at 34 _ _ a b rfl rfl _).mono ?_
    rintro e w1 ⟨rfl, rfl⟩
    go_wp2_with fail
    refine (does_at 34 _ _ a b rfl rfl _).mono ?_
    rintro e w1 ⟨rfl, rfl⟩
    go_wp2_with fail
    refine (does_at 34 _ _ N b rfl rfl _).mono ?_
    rintro e w1 ⟨rfl, rfl⟩
    go_wp2_with fail
    refine (fixed_any _).mono ?_
    rintro e w1 ⟨rfl, k, rfl⟩
    go_wp2_with fail
    go_ret
    exact ⟨rfl, _, rfl⟩
end Go.Proofs.Ytbjfkpmhcegimaa
