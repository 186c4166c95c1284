/-
  Contracts of package elf: what is odd is told by a panic, caught, and known.
-/
import Derived.Test.YtegfpbffgnpebabRows
import Derived.Test.YtegfpbffgnpebabEP
import Derived.WalkKit
import Derived.WalkLawsBesides
import Derived.Below
import Derived.Defers
import Derived.Recover
namespace Go.Proofs.Ytegfpbffgnpebab
open Go.RowKit El

/-- What is told by a panic, of an error. -/
def odd (k : Int) : Value :=
  .iface (if k = 2 then 46 else if k = 60 then 53 else if k = 61 then 54 else if k = 62 then 48 else 50) (.agg #[])
/-- How the work ends: with what it answers, or by telling what is odd. -/
def ends (k : Int) (v : Value) : Ending := if k = 0 then .returned v else .panicked [{ v := odd k, recovered := false }]
def Told (k : Int) : Prop := k = 2 ∨ k = 60 ∨ k = 61 ∨ k = 62 ∨ k = 63
theorem ends_zero (v : Value) : ends 0 v = .returned v := rfl
theorem ends_odd {k : Int} (h : k ≠ 0) (v : Value) : ends k v = .panicked [{ v := odd k, recovered := false }] := if_neg h
theorem Told.ne {k : Int} (h : Told k) : k ≠ 0 := by rcases h with rfl | rfl | rfl | rfl | rfl <;> decide
theorem odd_iface (k : Int) : ∃ t, odd k = .iface t (.agg #[]) := ⟨_, rfl⟩

theorem insist_yes (v : Value) (w : World) : Calls Try.prog 15 #[.bool true, v] w fun e w' => e = .returned (.tuple #[]) ∧ w' = w := by
  go_enter Try.func15, Try.ntmps15
  go_wp2
  go_end0
  exact ⟨rfl, rfl⟩
theorem insist_no (t : TypeId) (v : Value) (w : World) : Calls Try.prog 15 #[.bool false, .iface t v] w fun e w' => e = .panicked [{ v := .iface t v, recovered := false }] ∧ w' = w := by
  go_enter Try.func15, Try.ntmps15
  go_wp2
  exact ⟨rfl, rfl, rfl⟩
theorem known_nil (w : World) : Calls Try.prog 14 #[.nilIface] w fun e w' => e = .returned (.int .i64 0) ∧ w' = w := by
  go_enter Try.func14, Try.ntmps14
  go_wp2
  go_ret
  exact ⟨rfl, rfl⟩
theorem known_2 (w : World) : Calls Try.prog 14 #[.iface 46 (.agg #[])] w fun e w' => e = .returned (.int .i64 2) ∧ w' = w := by
  have a0 : ∀ W, (Instr.typeAssert (.iface 46 (.agg #[])) 20 46 true).run Try.prog W = .ok (.tuple #[.agg #[], .bool true]) W := fun W => by kernel_rfl
  go_enter Try.func14, Try.ntmps14
  go_wp2
  go_ret
  exact ⟨rfl, rfl⟩
theorem known_60 (w : World) : Calls Try.prog 14 #[.iface 53 (.agg #[])] w fun e w' => e = .returned (.int .i64 60) ∧ w' = w := by
  have a0 : ∀ W, (Instr.typeAssert (.iface 53 (.agg #[])) 20 46 true).run Try.prog W = .ok (.tuple #[.agg #[], .bool false]) W := fun W => by kernel_rfl
  have a1 : ∀ W, (Instr.typeAssert (.iface 53 (.agg #[])) 20 53 true).run Try.prog W = .ok (.tuple #[.agg #[], .bool true]) W := fun W => by kernel_rfl
  go_enter Try.func14, Try.ntmps14
  go_wp2
  go_ret
  exact ⟨rfl, rfl⟩
theorem known_61 (w : World) : Calls Try.prog 14 #[.iface 54 (.agg #[])] w fun e w' => e = .returned (.int .i64 61) ∧ w' = w := by
  have a0 : ∀ W, (Instr.typeAssert (.iface 54 (.agg #[])) 20 46 true).run Try.prog W = .ok (.tuple #[.agg #[], .bool false]) W := fun W => by kernel_rfl
  have a1 : ∀ W, (Instr.typeAssert (.iface 54 (.agg #[])) 20 53 true).run Try.prog W = .ok (.tuple #[.agg #[], .bool false]) W := fun W => by kernel_rfl
  have a2 : ∀ W, (Instr.typeAssert (.iface 54 (.agg #[])) 20 54 true).run Try.prog W = .ok (.tuple #[.agg #[], .bool true]) W := fun W => by kernel_rfl
  go_enter Try.func14, Try.ntmps14
  go_wp2
  go_ret
  exact ⟨rfl, rfl⟩
theorem known_62 (w : World) : Calls Try.prog 14 #[.iface 48 (.agg #[])] w fun e w' => e = .returned (.int .i64 62) ∧ w' = w := by
  have a0 : ∀ W, (Instr.typeAssert (.iface 48 (.agg #[])) 20 46 true).run Try.prog W = .ok (.tuple #[.agg #[], .bool false]) W := fun W => by kernel_rfl
  have a1 : ∀ W, (Instr.typeAssert (.iface 48 (.agg #[])) 20 53 true).run Try.prog W = .ok (.tuple #[.agg #[], .bool false]) W := fun W => by kernel_rfl
  have a2 : ∀ W, (Instr.typeAssert (.iface 48 (.agg #[])) 20 54 true).run Try.prog W = .ok (.tuple #[.agg #[], .bool false]) W := fun W => by kernel_rfl
  have a3 : ∀ W, (Instr.typeAssert (.iface 48 (.agg #[])) 20 48 true).run Try.prog W = .ok (.tuple #[.agg #[], .bool true]) W := fun W => by kernel_rfl
  go_enter Try.func14, Try.ntmps14
  go_wp2
  go_ret
  exact ⟨rfl, rfl⟩
theorem known_63 (w : World) : Calls Try.prog 14 #[.iface 50 (.agg #[])] w fun e w' => e = .returned (.int .i64 63) ∧ w' = w := by
  have a0 : ∀ W, (Instr.typeAssert (.iface 50 (.agg #[])) 20 46 true).run Try.prog W = .ok (.tuple #[.agg #[], .bool false]) W := fun W => by kernel_rfl
  have a1 : ∀ W, (Instr.typeAssert (.iface 50 (.agg #[])) 20 53 true).run Try.prog W = .ok (.tuple #[.agg #[], .bool false]) W := fun W => by kernel_rfl
  have a2 : ∀ W, (Instr.typeAssert (.iface 50 (.agg #[])) 20 54 true).run Try.prog W = .ok (.tuple #[.agg #[], .bool false]) W := fun W => by kernel_rfl
  have a3 : ∀ W, (Instr.typeAssert (.iface 50 (.agg #[])) 20 48 true).run Try.prog W = .ok (.tuple #[.agg #[], .bool false]) W := fun W => by kernel_rfl
  have a4 : ∀ W, (Instr.typeAssert (.iface 50 (.agg #[])) 20 50 true).run Try.prog W = .ok (.tuple #[.agg #[], .bool true]) W := fun W => by kernel_rfl
  go_enter Try.func14, Try.ntmps14
  go_wp2
  go_ret
  exact ⟨rfl, rfl⟩
theorem known_odd (k : Int) (h : Told k) (w : World) : Calls Try.prog 14 #[odd k] w fun e w' => e = .returned (.int .i64 k) ∧ w' = w := by
  rcases h with rfl | rfl | rfl | rfl | rfl
  · exact known_2 w
  · exact known_60 w
  · exact known_61 w
  · exact known_62 w
  · exact known_63 w

/-! ### the deferred function -/
theorem catch_odd (k : Int) (h : Told k) (p : Addr) (x : Int) (older : List PanicEntry) (w : World) (hc : w.cell? p = some (.int .i64 x)) (hz : w.frozen? p = false) :
    CallsD Try.prog 13 #[.pointer (some p)] (.panicking ({ v := odd k, recovered := false } :: older)) w fun e u' w' =>
      e = .returned (.tuple #[]) ∧ u' = .panicking ({ v := odd k, recovered := true } :: older) ∧ w' = w.setCell p (.int .i64 k) := by
  refine callsD_of_wpS Try.func13 rfl fun c₀ cs hu => ?_
  apply wpS_region
  simp [wpOpsS, go_sem, recoverD, hu, Try.ntmps13]
  refine (known_odd k h w).mono ?_
  rintro e w1 ⟨rfl, rfl⟩
  simp [go_sem, hc, hz, bodyPostS, results, Try.results13]
theorem catch_nil (p : Addr) (x : Int) (w : World) (hc : w.cell? p = some (.int .i64 x)) (hz : w.frozen? p = false) :
    CallsD Try.prog 13 #[.pointer (some p)] .returning w fun e u' w' => e = .returned (.tuple #[]) ∧ u' = .returning ∧ w' = w.setCell p (.int .i64 0) := by
  refine callsD_of_wpS Try.func13 rfl fun c₀ cs hu => ?_
  apply wpS_region
  simp [wpOpsS, go_sem, recoverD, hu, Try.ntmps13]
  refine (known_nil w).mono ?_
  rintro e w1 ⟨rfl, rfl⟩
  cases c₀
  simp_all [go_sem, bodyPostS, results, Try.results13]
end Go.Proofs.Ytegfpbffgnpebab
