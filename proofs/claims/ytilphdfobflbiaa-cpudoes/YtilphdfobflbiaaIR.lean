/-
  The number that a word tells, by its form, as a sum of its pieces; and back. No program in sight.
-/
import Derived.Test.YtilphdfobflbiaaID
namespace Go.Proofs.Ytilphdfobflbiaa
open Go.RowKit
namespace Ip

theorem toInt_small (v : BitVec 32) (h : v.toNat < 2147483648) : v.toInt = v.toNat := by
  rw [BitVec.toInt_eq_toNat_cond, if_pos (by omega)]
theorem sign_none (v : BitVec 32) : Wd.sign v 0 = v := by unfold Wd.sign; rw [if_neg (by omega)]
theorem num_none (x : BitVec 32) (f : Nat) (h : f = 82 ∨ f = 69) : number x f = 0 := by
  rcases h with rfl | rfl
  · unfold number
    have e : numV x 82 4 = Wd.put (Wd.put (Wd.put (Wd.put (BitVec.ofNat 32 0) 0 0 (Wd.field x 0 0)) 0 0 (Wd.field x 0 0)) 0 0 (Wd.field x 0 0)) 0 0 (Wd.field x 0 0) := rfl
    rw [e, put_none, put_none, put_none, put_none]
    show (Wd.sign _ 0).toInt = 0
    rw [sign_none]; rfl
  · unfold number
    have e : numV x 69 4 = Wd.put (Wd.put (Wd.put (Wd.put (BitVec.ofNat 32 0) 0 0 (Wd.field x 0 0)) 0 0 (Wd.field x 0 0)) 0 0 (Wd.field x 0 0)) 0 0 (Wd.field x 0 0) := rfl
    rw [e, put_none, put_none, put_none, put_none]
    show (Wd.sign _ 0).toInt = 0
    rw [sign_none]; rfl
theorem num_U (x : BitVec 32) : (numV x 85 4).toNat = 2 ^ 0 * (x.toNat / 2 ^ 12 % 2 ^ 20) := by
  have e : numV x 85 4 = (Wd.put (Wd.put (Wd.put (Wd.put (BitVec.ofNat 32 0) 0 20 (Wd.field x 12 20)) 0 0 (Wd.field x 0 0)) 0 0 (Wd.field x 0 0)) 0 0 (Wd.field x 0 0)) := rfl
  rw [e, put_none, put_none, put_none]
  have p0 := put_add (BitVec.ofNat 32 0) (Wd.field x 12 20) 0 20 0 20 rfl rfl (by omega) (by omega) (by show 0 / _ % _ = 0; rw [Nat.zero_div, Nat.zero_mod])
  have f0 := field_nat x 12 20 12 20 rfl rfl (by omega) (by omega)
  rw [p0, f0, Nat.mod_mod]
  show 0 + _ = _
  omega
def val_U (d0 : Nat) : Int := ((2 ^ 0 * d0 : Nat) : Int)
theorem number_U (x : BitVec 32) : number x 85 = val_U (x.toNat / 2 ^ 12 % 2 ^ 20) := by
  have e := num_U x
  have l0 : x.toNat / 2 ^ 12 % 2 ^ 20 < 2 ^ 20 := Nat.mod_lt _ (by decide)
  generalize x.toNat / 2 ^ 12 % 2 ^ 20 = d0 at *
  unfold number val_U
  show (Wd.sign _ 0).toInt = _
  rw [sign_none, toInt_small _ (by rw [e]; omega), e]
theorem digits_U (d0 : Nat) (l0 : d0 < 2 ^ 20) : (0) ≤ val_U d0 ∧ val_U d0 ≤ 1048575 ∧ val_U d0 % 1 = 0 ∧ (BitVec.ofInt 32 (val_U d0)).toNat / 2 ^ 0 % 2 ^ 20 = d0 := by
  have hU := ofInt_nat (val_U d0)
  generalize (BitVec.ofInt 32 (val_U d0)).toNat = U at *
  unfold val_U at *
  refine ⟨?_, ?_, ?_, ?_⟩
  all_goals omega
theorem back_U (n : Int) (h0 : (0) ≤ n) (h1 : n ≤ 1048575) (h2 : n % 1 = 0) : val_U ((BitVec.ofInt 32 n).toNat / 2 ^ 0 % 2 ^ 20) = n := by
  have hU := ofInt_nat n
  generalize (BitVec.ofInt 32 n).toNat = U at *
  unfold val_U
  omega
theorem num_J (x : BitVec 32) : (numV x 74 4).toNat = 2 ^ 20 * (x.toNat / 2 ^ 31 % 2 ^ 1) + 2 ^ 12 * (x.toNat / 2 ^ 12 % 2 ^ 8) + 2 ^ 11 * (x.toNat / 2 ^ 20 % 2 ^ 1) + 2 ^ 1 * (x.toNat / 2 ^ 21 % 2 ^ 10) := by
  have e : numV x 74 4 = (Wd.put (Wd.put (Wd.put (Wd.put (BitVec.ofNat 32 0) 20 1 (Wd.field x 31 1)) 12 8 (Wd.field x 12 8)) 11 1 (Wd.field x 20 1)) 1 10 (Wd.field x 21 10)) := rfl
  rw [e]
  have p0 := put_add (BitVec.ofNat 32 0) (Wd.field x 31 1) 20 1 20 1 rfl rfl (by omega) (by omega) (by show 0 / _ % _ = 0; rw [Nat.zero_div, Nat.zero_mod])
  have f0 := field_nat x 31 1 31 1 rfl rfl (by omega) (by omega)
  have p1 := put_add (Wd.put (BitVec.ofNat 32 0) 20 1 (Wd.field x 31 1)) (Wd.field x 12 8) 12 8 12 8 rfl rfl (by omega) (by omega) (by rw [put_apart _ _ 20 1 20 1 12 8 rfl rfl (by omega) (by omega) (by omega)]; show 0 / _ % _ = 0; rw [Nat.zero_div, Nat.zero_mod])
  have f1 := field_nat x 12 8 12 8 rfl rfl (by omega) (by omega)
  have p2 := put_add (Wd.put (Wd.put (BitVec.ofNat 32 0) 20 1 (Wd.field x 31 1)) 12 8 (Wd.field x 12 8)) (Wd.field x 20 1) 11 1 11 1 rfl rfl (by omega) (by omega) (by rw [put_apart _ _ 12 8 12 8 11 1 rfl rfl (by omega) (by omega) (by omega), put_apart _ _ 20 1 20 1 11 1 rfl rfl (by omega) (by omega) (by omega)]; show 0 / _ % _ = 0; rw [Nat.zero_div, Nat.zero_mod])
  have f2 := field_nat x 20 1 20 1 rfl rfl (by omega) (by omega)
  have p3 := put_add (Wd.put (Wd.put (Wd.put (BitVec.ofNat 32 0) 20 1 (Wd.field x 31 1)) 12 8 (Wd.field x 12 8)) 11 1 (Wd.field x 20 1)) (Wd.field x 21 10) 1 10 1 10 rfl rfl (by omega) (by omega) (by rw [put_apart _ _ 11 1 11 1 1 10 rfl rfl (by omega) (by omega) (by omega), put_apart _ _ 12 8 12 8 1 10 rfl rfl (by omega) (by omega) (by omega), put_apart _ _ 20 1 20 1 1 10 rfl rfl (by omega) (by omega) (by omega)]; show 0 / _ % _ = 0; rw [Nat.zero_div, Nat.zero_mod])
  have f3 := field_nat x 21 10 21 10 rfl rfl (by omega) (by omega)
  rw [p3, p2, p1, p0, f0, f1, f2, f3, Nat.mod_mod, Nat.mod_mod, Nat.mod_mod, Nat.mod_mod]
  show 0 + _ + _ + _ + _ = _
  omega
def val_J (d0 d1 d2 d3 : Nat) : Int := (if 2 ^ 20 * d0 + 2 ^ 12 * d1 + 2 ^ 11 * d2 + 2 ^ 1 * d3 < 2 ^ 20 then ((2 ^ 20 * d0 + 2 ^ 12 * d1 + 2 ^ 11 * d2 + 2 ^ 1 * d3 : Nat) : Int) else ((2 ^ 20 * d0 + 2 ^ 12 * d1 + 2 ^ 11 * d2 + 2 ^ 1 * d3 : Nat) : Int) - 2 ^ 21)
theorem number_J (x : BitVec 32) : number x 74 = val_J (x.toNat / 2 ^ 31 % 2 ^ 1) (x.toNat / 2 ^ 12 % 2 ^ 8) (x.toNat / 2 ^ 20 % 2 ^ 1) (x.toNat / 2 ^ 21 % 2 ^ 10) := by
  have e := num_J x
  have l0 : x.toNat / 2 ^ 31 % 2 ^ 1 < 2 ^ 1 := Nat.mod_lt _ (by decide)
  have l1 : x.toNat / 2 ^ 12 % 2 ^ 8 < 2 ^ 8 := Nat.mod_lt _ (by decide)
  have l2 : x.toNat / 2 ^ 20 % 2 ^ 1 < 2 ^ 1 := Nat.mod_lt _ (by decide)
  have l3 : x.toNat / 2 ^ 21 % 2 ^ 10 < 2 ^ 10 := Nat.mod_lt _ (by decide)
  generalize x.toNat / 2 ^ 31 % 2 ^ 1 = d0 at *
  generalize x.toNat / 2 ^ 12 % 2 ^ 8 = d1 at *
  generalize x.toNat / 2 ^ 20 % 2 ^ 1 = d2 at *
  generalize x.toNat / 2 ^ 21 % 2 ^ 10 = d3 at *
  unfold number val_J
  show (Wd.sign _ 21).toInt = _
  rw [sign_int _ 21 21 rfl (by omega) (by omega) (by rw [e]; omega), e]
theorem digits_J (d0 d1 d2 d3 : Nat) (l0 : d0 < 2 ^ 1) (l1 : d1 < 2 ^ 8) (l2 : d2 < 2 ^ 1) (l3 : d3 < 2 ^ 10) : (-1048576) ≤ val_J d0 d1 d2 d3 ∧ val_J d0 d1 d2 d3 ≤ 1048574 ∧ val_J d0 d1 d2 d3 % 2 = 0 ∧ (BitVec.ofInt 32 (val_J d0 d1 d2 d3)).toNat / 2 ^ 20 % 2 ^ 1 = d0 ∧ (BitVec.ofInt 32 (val_J d0 d1 d2 d3)).toNat / 2 ^ 12 % 2 ^ 8 = d1 ∧ (BitVec.ofInt 32 (val_J d0 d1 d2 d3)).toNat / 2 ^ 11 % 2 ^ 1 = d2 ∧ (BitVec.ofInt 32 (val_J d0 d1 d2 d3)).toNat / 2 ^ 1 % 2 ^ 10 = d3 := by
  have hU := ofInt_nat (val_J d0 d1 d2 d3)
  generalize (BitVec.ofInt 32 (val_J d0 d1 d2 d3)).toNat = U at *
  unfold val_J at *
  split at hU
  all_goals refine ⟨?_, ?_, ?_, ?_, ?_, ?_, ?_⟩
  all_goals (try split) <;> omega
theorem back_J (n : Int) (h0 : (-1048576) ≤ n) (h1 : n ≤ 1048574) (h2 : n % 2 = 0) : val_J ((BitVec.ofInt 32 n).toNat / 2 ^ 20 % 2 ^ 1) ((BitVec.ofInt 32 n).toNat / 2 ^ 12 % 2 ^ 8) ((BitVec.ofInt 32 n).toNat / 2 ^ 11 % 2 ^ 1) ((BitVec.ofInt 32 n).toNat / 2 ^ 1 % 2 ^ 10) = n := by
  have hU := ofInt_nat n
  generalize (BitVec.ofInt 32 n).toNat = U at *
  unfold val_J
  split <;> omega
theorem num_I (x : BitVec 32) : (numV x 73 4).toNat = 2 ^ 0 * (x.toNat / 2 ^ 20 % 2 ^ 12) := by
  have e : numV x 73 4 = (Wd.put (Wd.put (Wd.put (Wd.put (BitVec.ofNat 32 0) 0 12 (Wd.field x 20 12)) 0 0 (Wd.field x 0 0)) 0 0 (Wd.field x 0 0)) 0 0 (Wd.field x 0 0)) := rfl
  rw [e, put_none, put_none, put_none]
  have p0 := put_add (BitVec.ofNat 32 0) (Wd.field x 20 12) 0 12 0 12 rfl rfl (by omega) (by omega) (by show 0 / _ % _ = 0; rw [Nat.zero_div, Nat.zero_mod])
  have f0 := field_nat x 20 12 20 12 rfl rfl (by omega) (by omega)
  rw [p0, f0, Nat.mod_mod]
  show 0 + _ = _
  omega
def val_I (d0 : Nat) : Int := (if 2 ^ 0 * d0 < 2 ^ 11 then ((2 ^ 0 * d0 : Nat) : Int) else ((2 ^ 0 * d0 : Nat) : Int) - 2 ^ 12)
theorem number_I (x : BitVec 32) : number x 73 = val_I (x.toNat / 2 ^ 20 % 2 ^ 12) := by
  have e := num_I x
  have l0 : x.toNat / 2 ^ 20 % 2 ^ 12 < 2 ^ 12 := Nat.mod_lt _ (by decide)
  generalize x.toNat / 2 ^ 20 % 2 ^ 12 = d0 at *
  unfold number val_I
  show (Wd.sign _ 12).toInt = _
  rw [sign_int _ 12 12 rfl (by omega) (by omega) (by rw [e]; omega), e]
theorem digits_I (d0 : Nat) (l0 : d0 < 2 ^ 12) : (-2048) ≤ val_I d0 ∧ val_I d0 ≤ 2047 ∧ val_I d0 % 1 = 0 ∧ (BitVec.ofInt 32 (val_I d0)).toNat / 2 ^ 0 % 2 ^ 12 = d0 := by
  have hU := ofInt_nat (val_I d0)
  generalize (BitVec.ofInt 32 (val_I d0)).toNat = U at *
  unfold val_I at *
  split at hU
  all_goals refine ⟨?_, ?_, ?_, ?_⟩
  all_goals (try split) <;> omega
theorem back_I (n : Int) (h0 : (-2048) ≤ n) (h1 : n ≤ 2047) (h2 : n % 1 = 0) : val_I ((BitVec.ofInt 32 n).toNat / 2 ^ 0 % 2 ^ 12) = n := by
  have hU := ofInt_nat n
  generalize (BitVec.ofInt 32 n).toNat = U at *
  unfold val_I
  split <;> omega
theorem num_H (x : BitVec 32) : (numV x 72 4).toNat = 2 ^ 0 * (x.toNat / 2 ^ 20 % 2 ^ 5) := by
  have e : numV x 72 4 = (Wd.put (Wd.put (Wd.put (Wd.put (BitVec.ofNat 32 0) 0 5 (Wd.field x 20 5)) 0 0 (Wd.field x 0 0)) 0 0 (Wd.field x 0 0)) 0 0 (Wd.field x 0 0)) := rfl
  rw [e, put_none, put_none, put_none]
  have p0 := put_add (BitVec.ofNat 32 0) (Wd.field x 20 5) 0 5 0 5 rfl rfl (by omega) (by omega) (by show 0 / _ % _ = 0; rw [Nat.zero_div, Nat.zero_mod])
  have f0 := field_nat x 20 5 20 5 rfl rfl (by omega) (by omega)
  rw [p0, f0, Nat.mod_mod]
  show 0 + _ = _
  omega
def val_H (d0 : Nat) : Int := ((2 ^ 0 * d0 : Nat) : Int)
theorem number_H (x : BitVec 32) : number x 72 = val_H (x.toNat / 2 ^ 20 % 2 ^ 5) := by
  have e := num_H x
  have l0 : x.toNat / 2 ^ 20 % 2 ^ 5 < 2 ^ 5 := Nat.mod_lt _ (by decide)
  generalize x.toNat / 2 ^ 20 % 2 ^ 5 = d0 at *
  unfold number val_H
  show (Wd.sign _ 0).toInt = _
  rw [sign_none, toInt_small _ (by rw [e]; omega), e]
theorem digits_H (d0 : Nat) (l0 : d0 < 2 ^ 5) : (0) ≤ val_H d0 ∧ val_H d0 ≤ 31 ∧ val_H d0 % 1 = 0 ∧ (BitVec.ofInt 32 (val_H d0)).toNat / 2 ^ 0 % 2 ^ 5 = d0 := by
  have hU := ofInt_nat (val_H d0)
  generalize (BitVec.ofInt 32 (val_H d0)).toNat = U at *
  unfold val_H at *
  refine ⟨?_, ?_, ?_, ?_⟩
  all_goals omega
theorem back_H (n : Int) (h0 : (0) ≤ n) (h1 : n ≤ 31) (h2 : n % 1 = 0) : val_H ((BitVec.ofInt 32 n).toNat / 2 ^ 0 % 2 ^ 5) = n := by
  have hU := ofInt_nat n
  generalize (BitVec.ofInt 32 n).toNat = U at *
  unfold val_H
  omega
theorem num_B (x : BitVec 32) : (numV x 66 4).toNat = 2 ^ 12 * (x.toNat / 2 ^ 31 % 2 ^ 1) + 2 ^ 11 * (x.toNat / 2 ^ 7 % 2 ^ 1) + 2 ^ 5 * (x.toNat / 2 ^ 25 % 2 ^ 6) + 2 ^ 1 * (x.toNat / 2 ^ 8 % 2 ^ 4) := by
  have e : numV x 66 4 = (Wd.put (Wd.put (Wd.put (Wd.put (BitVec.ofNat 32 0) 12 1 (Wd.field x 31 1)) 11 1 (Wd.field x 7 1)) 5 6 (Wd.field x 25 6)) 1 4 (Wd.field x 8 4)) := rfl
  rw [e]
  have p0 := put_add (BitVec.ofNat 32 0) (Wd.field x 31 1) 12 1 12 1 rfl rfl (by omega) (by omega) (by show 0 / _ % _ = 0; rw [Nat.zero_div, Nat.zero_mod])
  have f0 := field_nat x 31 1 31 1 rfl rfl (by omega) (by omega)
  have p1 := put_add (Wd.put (BitVec.ofNat 32 0) 12 1 (Wd.field x 31 1)) (Wd.field x 7 1) 11 1 11 1 rfl rfl (by omega) (by omega) (by rw [put_apart _ _ 12 1 12 1 11 1 rfl rfl (by omega) (by omega) (by omega)]; show 0 / _ % _ = 0; rw [Nat.zero_div, Nat.zero_mod])
  have f1 := field_nat x 7 1 7 1 rfl rfl (by omega) (by omega)
  have p2 := put_add (Wd.put (Wd.put (BitVec.ofNat 32 0) 12 1 (Wd.field x 31 1)) 11 1 (Wd.field x 7 1)) (Wd.field x 25 6) 5 6 5 6 rfl rfl (by omega) (by omega) (by rw [put_apart _ _ 11 1 11 1 5 6 rfl rfl (by omega) (by omega) (by omega), put_apart _ _ 12 1 12 1 5 6 rfl rfl (by omega) (by omega) (by omega)]; show 0 / _ % _ = 0; rw [Nat.zero_div, Nat.zero_mod])
  have f2 := field_nat x 25 6 25 6 rfl rfl (by omega) (by omega)
  have p3 := put_add (Wd.put (Wd.put (Wd.put (BitVec.ofNat 32 0) 12 1 (Wd.field x 31 1)) 11 1 (Wd.field x 7 1)) 5 6 (Wd.field x 25 6)) (Wd.field x 8 4) 1 4 1 4 rfl rfl (by omega) (by omega) (by rw [put_apart _ _ 5 6 5 6 1 4 rfl rfl (by omega) (by omega) (by omega), put_apart _ _ 11 1 11 1 1 4 rfl rfl (by omega) (by omega) (by omega), put_apart _ _ 12 1 12 1 1 4 rfl rfl (by omega) (by omega) (by omega)]; show 0 / _ % _ = 0; rw [Nat.zero_div, Nat.zero_mod])
  have f3 := field_nat x 8 4 8 4 rfl rfl (by omega) (by omega)
  rw [p3, p2, p1, p0, f0, f1, f2, f3, Nat.mod_mod, Nat.mod_mod, Nat.mod_mod, Nat.mod_mod]
  show 0 + _ + _ + _ + _ = _
  omega
def val_B (d0 d1 d2 d3 : Nat) : Int := (if 2 ^ 12 * d0 + 2 ^ 11 * d1 + 2 ^ 5 * d2 + 2 ^ 1 * d3 < 2 ^ 12 then ((2 ^ 12 * d0 + 2 ^ 11 * d1 + 2 ^ 5 * d2 + 2 ^ 1 * d3 : Nat) : Int) else ((2 ^ 12 * d0 + 2 ^ 11 * d1 + 2 ^ 5 * d2 + 2 ^ 1 * d3 : Nat) : Int) - 2 ^ 13)
theorem number_B (x : BitVec 32) : number x 66 = val_B (x.toNat / 2 ^ 31 % 2 ^ 1) (x.toNat / 2 ^ 7 % 2 ^ 1) (x.toNat / 2 ^ 25 % 2 ^ 6) (x.toNat / 2 ^ 8 % 2 ^ 4) := by
  have e := num_B x
  have l0 : x.toNat / 2 ^ 31 % 2 ^ 1 < 2 ^ 1 := Nat.mod_lt _ (by decide)
  have l1 : x.toNat / 2 ^ 7 % 2 ^ 1 < 2 ^ 1 := Nat.mod_lt _ (by decide)
  have l2 : x.toNat / 2 ^ 25 % 2 ^ 6 < 2 ^ 6 := Nat.mod_lt _ (by decide)
  have l3 : x.toNat / 2 ^ 8 % 2 ^ 4 < 2 ^ 4 := Nat.mod_lt _ (by decide)
  generalize x.toNat / 2 ^ 31 % 2 ^ 1 = d0 at *
  generalize x.toNat / 2 ^ 7 % 2 ^ 1 = d1 at *
  generalize x.toNat / 2 ^ 25 % 2 ^ 6 = d2 at *
  generalize x.toNat / 2 ^ 8 % 2 ^ 4 = d3 at *
  unfold number val_B
  show (Wd.sign _ 13).toInt = _
  rw [sign_int _ 13 13 rfl (by omega) (by omega) (by rw [e]; omega), e]
theorem digits_B (d0 d1 d2 d3 : Nat) (l0 : d0 < 2 ^ 1) (l1 : d1 < 2 ^ 1) (l2 : d2 < 2 ^ 6) (l3 : d3 < 2 ^ 4) : (-4096) ≤ val_B d0 d1 d2 d3 ∧ val_B d0 d1 d2 d3 ≤ 4094 ∧ val_B d0 d1 d2 d3 % 2 = 0 ∧ (BitVec.ofInt 32 (val_B d0 d1 d2 d3)).toNat / 2 ^ 12 % 2 ^ 1 = d0 ∧ (BitVec.ofInt 32 (val_B d0 d1 d2 d3)).toNat / 2 ^ 11 % 2 ^ 1 = d1 ∧ (BitVec.ofInt 32 (val_B d0 d1 d2 d3)).toNat / 2 ^ 5 % 2 ^ 6 = d2 ∧ (BitVec.ofInt 32 (val_B d0 d1 d2 d3)).toNat / 2 ^ 1 % 2 ^ 4 = d3 := by
  have hU := ofInt_nat (val_B d0 d1 d2 d3)
  generalize (BitVec.ofInt 32 (val_B d0 d1 d2 d3)).toNat = U at *
  unfold val_B at *
  split at hU
  all_goals refine ⟨?_, ?_, ?_, ?_, ?_, ?_, ?_⟩
  all_goals (try split) <;> omega
theorem back_B (n : Int) (h0 : (-4096) ≤ n) (h1 : n ≤ 4094) (h2 : n % 2 = 0) : val_B ((BitVec.ofInt 32 n).toNat / 2 ^ 12 % 2 ^ 1) ((BitVec.ofInt 32 n).toNat / 2 ^ 11 % 2 ^ 1) ((BitVec.ofInt 32 n).toNat / 2 ^ 5 % 2 ^ 6) ((BitVec.ofInt 32 n).toNat / 2 ^ 1 % 2 ^ 4) = n := by
  have hU := ofInt_nat n
  generalize (BitVec.ofInt 32 n).toNat = U at *
  unfold val_B
  split <;> omega
theorem num_S (x : BitVec 32) : (numV x 83 4).toNat = 2 ^ 0 * (x.toNat / 2 ^ 7 % 2 ^ 5) + 2 ^ 5 * (x.toNat / 2 ^ 25 % 2 ^ 7) := by
  have e : numV x 83 4 = (Wd.put (Wd.put (Wd.put (Wd.put (BitVec.ofNat 32 0) 0 5 (Wd.field x 7 5)) 5 7 (Wd.field x 25 7)) 0 0 (Wd.field x 0 0)) 0 0 (Wd.field x 0 0)) := rfl
  rw [e, put_none, put_none]
  have p0 := put_add (BitVec.ofNat 32 0) (Wd.field x 7 5) 0 5 0 5 rfl rfl (by omega) (by omega) (by show 0 / _ % _ = 0; rw [Nat.zero_div, Nat.zero_mod])
  have f0 := field_nat x 7 5 7 5 rfl rfl (by omega) (by omega)
  have p1 := put_add (Wd.put (BitVec.ofNat 32 0) 0 5 (Wd.field x 7 5)) (Wd.field x 25 7) 5 7 5 7 rfl rfl (by omega) (by omega) (by rw [put_apart _ _ 0 5 0 5 5 7 rfl rfl (by omega) (by omega) (by omega)]; show 0 / _ % _ = 0; rw [Nat.zero_div, Nat.zero_mod])
  have f1 := field_nat x 25 7 25 7 rfl rfl (by omega) (by omega)
  rw [p1, p0, f0, f1, Nat.mod_mod, Nat.mod_mod]
  show 0 + _ + _ = _
  omega
def val_S (d0 d1 : Nat) : Int := (if 2 ^ 0 * d0 + 2 ^ 5 * d1 < 2 ^ 11 then ((2 ^ 0 * d0 + 2 ^ 5 * d1 : Nat) : Int) else ((2 ^ 0 * d0 + 2 ^ 5 * d1 : Nat) : Int) - 2 ^ 12)
theorem number_S (x : BitVec 32) : number x 83 = val_S (x.toNat / 2 ^ 7 % 2 ^ 5) (x.toNat / 2 ^ 25 % 2 ^ 7) := by
  have e := num_S x
  have l0 : x.toNat / 2 ^ 7 % 2 ^ 5 < 2 ^ 5 := Nat.mod_lt _ (by decide)
  have l1 : x.toNat / 2 ^ 25 % 2 ^ 7 < 2 ^ 7 := Nat.mod_lt _ (by decide)
  generalize x.toNat / 2 ^ 7 % 2 ^ 5 = d0 at *
  generalize x.toNat / 2 ^ 25 % 2 ^ 7 = d1 at *
  unfold number val_S
  show (Wd.sign _ 12).toInt = _
  rw [sign_int _ 12 12 rfl (by omega) (by omega) (by rw [e]; omega), e]
theorem digits_S (d0 d1 : Nat) (l0 : d0 < 2 ^ 5) (l1 : d1 < 2 ^ 7) : (-2048) ≤ val_S d0 d1 ∧ val_S d0 d1 ≤ 2047 ∧ val_S d0 d1 % 1 = 0 ∧ (BitVec.ofInt 32 (val_S d0 d1)).toNat / 2 ^ 0 % 2 ^ 5 = d0 ∧ (BitVec.ofInt 32 (val_S d0 d1)).toNat / 2 ^ 5 % 2 ^ 7 = d1 := by
  have hU := ofInt_nat (val_S d0 d1)
  generalize (BitVec.ofInt 32 (val_S d0 d1)).toNat = U at *
  unfold val_S at *
  split at hU
  all_goals refine ⟨?_, ?_, ?_, ?_, ?_⟩
  all_goals (try split) <;> omega
theorem back_S (n : Int) (h0 : (-2048) ≤ n) (h1 : n ≤ 2047) (h2 : n % 1 = 0) : val_S ((BitVec.ofInt 32 n).toNat / 2 ^ 0 % 2 ^ 5) ((BitVec.ofInt 32 n).toNat / 2 ^ 5 % 2 ^ 7) = n := by
  have hU := ofInt_nat n
  generalize (BitVec.ofInt 32 n).toNat = U at *
  unfold val_S
  split <;> omega
end Ip
end Go.Proofs.Ytilphdfobflbiaa
