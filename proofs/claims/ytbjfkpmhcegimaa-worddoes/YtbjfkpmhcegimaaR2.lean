/-
  Contracts of the document's Sign and Put: each comes to the same plain function as the program's own.
-/
import Derived.Test.YtbjfkpmhcegimaaR
namespace Go.Proofs.Ytbjfkpmhcegimaa
open Go.RowKit

theorem bitAt_nat (x : BitVec 32) (k : Nat) : bitAt x (k : Int) = x.getLsbD k := by
  unfold bitAt; rw [decide_eq_true (by omega), Int.toNat_natCast]; rfl

theorem min_bit (x : BitVec 32) (n : Int) (k : Nat) (h1 : 1 ≤ n) (h2 : n ≤ 31) (hk : k < 32) : bitAt x (if n - 1 < (k : Int) then n - 1 else (k : Int)) = (Wd.sign x n).getLsbD k := by
  rw [Wd.sign_get x n h1 h2 k hk]
  unfold bitAt
  by_cases h : n - 1 < (k : Int)
  · rw [if_pos h, decide_eq_true (by omega), show (n - 1).toNat = min k (n.toNat - 1) by omega]; rfl
  · rw [if_neg h, decide_eq_true (by omega), show (k : Int).toNat = min k (n.toNat - 1) by omega]; rfl

theorem rsign_any (x : BitVec 32) (n : Int) (w : World) : Calls Try.prog 13 #[.int .u32 (x.toNat : Int), .int .i64 n] w fun e w' => e = .returned (.int .u32 ((Wd.sign x n).toNat : Int)) ∧ Below w.heap.size w w' := by
  by_cases h1 : n < 1
  · go_enter Try.func13, Try.ntmps13
    go_wp2
    go_ret
    exact ⟨ret_int (by unfold Wd.sign; rw [if_neg (by omega)]), Below.refl _ _⟩
  · by_cases h2 : 31 < n
    · go_enter Try.func13, Try.ntmps13
      go_wp2
      go_ret
      exact ⟨ret_int (by unfold Wd.sign; rw [if_neg (by omega)]), Below.refl _ _⟩
    · have hmk := made
      go_enter Try.func13, Try.ntmps13
      go_wp2_with fail
      clear hmk
      go_loopw [6] (fun i wr => ∃ k : Nat, i = .int .i64 (k : Int) ∧ k ≤ 32 ∧ Row wr w.heap.size (fun j => decide (j < k) && (Wd.sign x n).getLsbD j) ∧ Below w.heap.size w wr) (fun i _ => (32 - intOf i).toNat)
      case atStart => exact ⟨0, rfl, by omega, (Row.made w).congr (by simp), (Below.refl _ _).alloc (Nat.le_refl _) _⟩
      case round =>
        obtain ⟨k, rfl, hk, hrow, hbel⟩ := hrel
        by_cases hlt : k < 32
        · have hcell := hrow.cell k (by omega)
          have hfree := hrow.free k
          have HR : Hid (Row wr w.heap.size (fun j => decide (j < k) && (Wd.sign x n).getLsbD j)) := hrow
          clear hrow
          go_wp2_with (go_at_call 22; refine (bit_any _ _ _).mono ?_; rintro e w' ⟨rfl, rfl⟩)
          go_roundw
          case rel =>
            refine ⟨k + 1, by go_num, by omega, (HR.out.set k (by omega) _).congr ?_, hbel.setCell (Nat.le_refl _) _⟩
            intro j hj
            by_cases e : j = k
            · subst e; rw [if_pos rfl, min_bit x n j h1 h2 hj, decide_eq_true (by omega)]; simp
            · have e2 : (j < k + 1) = (j < k) := propext (by omega)
              simp [e, e2]
          case measure => simp [intOf]; omega
        · have hrow' : Row wr w.heap.size (fun j => (Wd.sign x n).getLsbD j) := hrow.congr (by
            intro j hj; rw [decide_eq_true (by omega)]; simp)
          clear hrow
          go_wp2_with (go_at_call 23; refine (of_any (Wd.sign x n) _ _ hrow').mono ?_; rintro e w' ⟨rfl, rfl⟩)
          go_ret
          exact ⟨rfl, hbel⟩

theorem put_round_out (x : BitVec 32) (a n : Int) (v : BitVec 32) (k : Nat) (hk : k < 32) (h : Wd.within a n = true → ¬ (a.toNat ≤ k ∧ k < a.toNat + n.toNat)) (j : Nat) (_hj : j < 32) :
    (if j = k then bitAt x (k : Int) else (decide (j < k) && (Wd.put x a n v).getLsbD j)) = (decide (j < k + 1) && (Wd.put x a n v).getLsbD j) := by
  by_cases e : j = k
  · subst e
    rw [if_pos rfl, bitAt_nat, decide_eq_true (by omega)]
    by_cases hw : Wd.within a n = true
    · rw [Wd.put_get x a n v hw j hk, if_neg (h hw)]; rfl
    · unfold Wd.put; rw [if_neg hw]; rfl
  · have e2 : (j < k + 1) = (j < k) := propext (by omega)
    simp [e, e2]
theorem put_round_in (x : BitVec 32) (a n : Int) (v : BitVec 32) (k : Nat) (hk : k < 32) (hw : Wd.within a n = true) (h1 : a ≤ (k : Int)) (h2 : (k : Int) < a + n) (j : Nat) (_hj : j < 32) :
    (if j = k then bitAt v ((k : Int) - a) else if j = k then bitAt x (k : Int) else (decide (j < k) && (Wd.put x a n v).getLsbD j)) = (decide (j < k + 1) && (Wd.put x a n v).getLsbD j) := by
  have hb := Wd.of_within hw
  by_cases e : j = k
  · subst e
    rw [if_pos rfl, decide_eq_true (by omega), Wd.put_get x a n v hw j hk, if_pos (by omega)]
    unfold bitAt; rw [decide_eq_true (by omega), show ((j : Int) - a).toNat = j - a.toNat by omega]
  · have e2 : (j < k + 1) = (j < k) := propext (by omega)
    simp [e, e2]

theorem rput_any (x : BitVec 32) (a n : Int) (v : BitVec 32) (w : World) : Calls Try.prog 15 #[.int .u32 (x.toNat : Int), .int .i64 a, .int .i64 n, .int .u32 (v.toNat : Int)] w fun e w' => e = .returned (.int .u32 ((Wd.put x a n v).toNat : Int)) ∧ Below w.heap.size w w' := by
  have hmk := made
  go_enter Try.func15, Try.ntmps15
  go_wp2_with fail
  clear hmk
  go_loopw [10] (fun i wr => ∃ k : Nat, i = .int .i64 (k : Int) ∧ k ≤ 32 ∧ Row wr w.heap.size (fun j => decide (j < k) && (Wd.put x a n v).getLsbD j) ∧ Below w.heap.size w wr) (fun i _ => (32 - intOf i).toNat)
  case atStart => exact ⟨0, rfl, by omega, (Row.made w).congr (by simp), (Below.refl _ _).alloc (Nat.le_refl _) _⟩
  case round =>
    obtain ⟨k, rfl, hk, hrow, hbel⟩ := hrel
    by_cases hlt : k < 32
    · have hcell := hrow.cell k (by omega)
      have hfree := hrow.free k
      have HR : Hid (Row wr w.heap.size (fun j => decide (j < k) && (Wd.put x a n v).getLsbD j)) := hrow
      clear hrow
      by_cases hw : Wd.within a n = true
      · have hb := Wd.of_within hw
        obtain ⟨b1, b2, b3, b4, b5⟩ := hb
        by_cases ha : a ≤ (k : Int)
        · by_cases hn : (k : Int) < a + n
          · go_wp2_with (first | (go_at_call 21; refine (may_any _ _ _).mono ?_; rintro e w' ⟨rfl, rfl⟩) | (go_at_call 22; refine (bit_any _ _ _).mono ?_; rintro e w' ⟨rfl, rfl⟩))
            go_roundw
            case rel =>
              refine ⟨k + 1, by go_num, by omega, ((HR.out.set k (by omega) _).set k (by omega) _).congr ?_, (hbel.setCell (Nat.le_refl _) _).setCell (Nat.le_refl _) _⟩
              exact put_round_in x a n v k hlt hw ha hn
            case measure => simp [intOf]; omega
          · go_wp2_with (first | (go_at_call 21; refine (may_any _ _ _).mono ?_; rintro e w' ⟨rfl, rfl⟩) | (go_at_call 22; refine (bit_any _ _ _).mono ?_; rintro e w' ⟨rfl, rfl⟩))
            go_roundw
            case rel =>
              refine ⟨k + 1, by go_num, by omega, (HR.out.set k (by omega) _).congr ?_, hbel.setCell (Nat.le_refl _) _⟩
              exact put_round_out x a n v k hlt (fun h => by omega)
            case measure => simp [intOf]; omega
        · go_wp2_with (first | (go_at_call 21; refine (may_any _ _ _).mono ?_; rintro e w' ⟨rfl, rfl⟩) | (go_at_call 22; refine (bit_any _ _ _).mono ?_; rintro e w' ⟨rfl, rfl⟩))
          go_roundw
          case rel =>
            refine ⟨k + 1, by go_num, by omega, (HR.out.set k (by omega) _).congr ?_, hbel.setCell (Nat.le_refl _) _⟩
            exact put_round_out x a n v k hlt (fun h => by omega)
          case measure => simp [intOf]; omega
      · have hw' : Wd.within a n = false := by simpa using hw
        go_wp2_with (first | (go_at_call 21; refine (may_any _ _ _).mono ?_; rintro e w' ⟨rfl, rfl⟩) | (go_at_call 22; refine (bit_any _ _ _).mono ?_; rintro e w' ⟨rfl, rfl⟩))
        go_roundw
        case rel =>
          refine ⟨k + 1, by go_num, by omega, (HR.out.set k (by omega) _).congr ?_, hbel.setCell (Nat.le_refl _) _⟩
          exact put_round_out x a n v k hlt (fun h => absurd h hw)
        case measure => simp [intOf]; omega
    · have hrow' : Row wr w.heap.size (fun j => (Wd.put x a n v).getLsbD j) := hrow.congr (by
        intro j hj; rw [decide_eq_true (by omega)]; simp)
      clear hrow
      go_wp2_with (go_at_call 23; refine (of_any (Wd.put x a n v) _ _ hrow').mono ?_; rintro e w' ⟨rfl, rfl⟩)
      go_ret
      exact ⟨rfl, hbel⟩
end Go.Proofs.Ytbjfkpmhcegimaa
