/-
  Contracts of the document's Num (of four bytes) and of its layer 7's Of.
-/
import Derived.Test.YtkfomhllaogplaaGH
import Derived.Test.YtkfomhllaogplaaGL
import Derived.Test.YtkfomhllaogplaaET
import Derived.Test.YtkfomhllaogplaaFA
import Derived.Deep.CutRange
namespace Go.Proofs.Ytkfomhllaogplaa
open Go.RowKit El Go.Lib
open Classical
set_option linter.unusedSimpArgs false
set_option linter.unusedVariables false

def part (d : List UInt8) (m : Nat) : Nat → Nat
  | 0 => 0
  | k + 1 => part d m k * 256 + (d.getD (m + (3 - k)) 0).toNat
theorem part_4 (d : List UInt8) (m : Nat) : part d m 4 = le4 d m := by
  simp only [part, le4, le2, Nat.add_zero, Nat.sub_self, show 3 - 0 = 3 from rfl, show 3 - 1 = 2 from rfl, show 3 - 2 = 1 from rfl, show m + 2 + 1 = m + 3 from rfl]
  omega
theorem part_succ (d : List UInt8) (m k : Nat) : part d m (k + 1) = part d m k * 256 + (d.getD (m + (3 - k)) 0).toNat := rfl
theorem part_lt (d : List UInt8) (m k : Nat) (h : k ≤ 4) : part d m k ≤ 4294967295 := by
  have q : ∀ j, (d.getD j 0).toNat < 256 := fun j => (d.getD j 0).toNat_lt
  have := q (m + 3); have := q (m + 2); have := q (m + 1); have := q (m + 0)
  match k, h with
  | 0, _ => simp [part]
  | 1, _ => simp only [part, show 3 - 0 = 3 from rfl]; omega
  | 2, _ => simp only [part, show 3 - 0 = 3 from rfl, show 3 - 1 = 2 from rfl]; omega
  | 3, _ => simp only [part, show 3 - 0 = 3 from rfl, show 3 - 1 = 2 from rfl, show 3 - 2 = 1 from rfl]; omega
  | 4, _ => simp only [part, show 3 - 0 = 3 from rfl, show 3 - 1 = 2 from rfl, show 3 - 2 = 1 from rfl, Nat.sub_self]; omega
theorem getB (d : List UInt8) (j : Nat) (h : j < d.length) : ((⟨d.toArray⟩ : ByteArray)[j]'(by show j < d.toArray.size; rw [List.size_toArray]; omega)) = d.getD j 0 := by
  rw [List.getD_eq_getElem?_getD, List.getElem?_eq_getElem h]; rfl
set_option maxHeartbeats 4000000 in
theorem rnum4_any (d : List UInt8) (m : Nat) (hm : m + 3 < d.length) (hd : d.length ≤ 4000000) (i : Int) (hi : i = (m : Int)) (w : World) :
    Calls Try.prog 27 #[.string ⟨d.toArray⟩, .int .i64 i, .int .i64 4] w fun e w' => e = .returned (.int .i64 (le4 d m : Int)) ∧ w' = w := by
  subst hi
  have p4 := part_4 d m
  go_enter Try.func27, Try.ntmps27
  go_wp2_with fail
  go_loopg [7, 8] 4 (fun q v i wr => ∃ k : Nat, k + q = 4 ∧ i = .int .i64 (3 - (k : Int)) ∧ v = .int .i64 (part d m k : Int) ∧ wr = w)
  case atStart => exact ⟨0, by omega, rfl, rfl, rfl⟩
  case round =>
    obtain ⟨k, hkq, rfl, rfl, rfl⟩ := hrel
    cases gk with
    | zero =>
      obtain rfl : k = 4 := by omega
      have P4 := hideE p4
      clear p4
      go_wp2_with fail
      go_ret
      exact ⟨by rw [P4.out]; rfl, rfl⟩
    | succ q =>
      have hpl := part_lt d m k (by omega)
      have hps := part_succ d m k
      have hpl' := part_lt d m (k + 1) (by omega)
      obtain ⟨P, hP⟩ : ∃ P, part d m k = P := ⟨_, rfl⟩
      have hj : m + (3 - k) < d.length := by omega
      obtain ⟨j, hjj⟩ : ∃ j, m + (3 - k) = j := ⟨_, rfl⟩
      rw [hP, hjj] at hps
      rw [hP] at hpl ⊢
      rw [hjj] at hj
      have hg := getB d j hj
      have hb := (d.getD j 0).toNat_lt
      have hcond : decide ((0 : Int) ≤ 3 - (k : Int)) = true := decide_eq_true (by omega)
      have hcond' : (0 : Int) ≤ 3 - (k : Int) := by omega
      have hw1 : IntKind.i64.wrap ((P : Int) * 256) = (P : Int) * 256 := wrE (by omega) (by omega)
      have hw2 : IntKind.i64.wrap ((m : Int) + (3 - (k : Int))) = (j : Int) := by rw [wrE (by omega) (by omega)]; omega
      have hw3 : IntKind.i64.wrap (3 - (k : Int) - 1) = 3 - ((k + 1 : Nat) : Int) := by rw [wrE (by omega) (by omega)]; omega
      have hj0 : (0 : Int) ≤ (j : Int) := by omega
      have hj1 : (j : Int) < (d.length : Int) := by omega
      have hw4 : IntKind.i64.wrap ((P : Int) * 256 + ((d.getD j 0).toNat : Int)) = ((part d m (k + 1) : Nat) : Int) := by rw [hps, wrE (by omega) (by omega)]; omega
      have hw5 : ((d.getD j 0).toNat : Int) % 18446744073709551616 = ((d.getD j 0).toNat : Int) := by omega
      have hw6 : IntKind.i64.wrap ((d.getD j 0).toNat : Int) = ((d.getD j 0).toNat : Int) := wrE (by omega) (by omega)
      generalize hcc : d.getD j 0 = cc at *
      generalize hQ : part d m (k + 1) = Q at *
      have HQ := hideE hQ
      have HP4 := hideE p4
      clear hps hcc hjj hP hpl hpl' hQ p4
      go_wp2_with fail
      go_roundg q
      case measure => omega
      case rel => exact ⟨k + 1, by omega, by simp, by rw [HQ.out], rfl⟩
end Go.Proofs.Ytkfomhllaogplaa
