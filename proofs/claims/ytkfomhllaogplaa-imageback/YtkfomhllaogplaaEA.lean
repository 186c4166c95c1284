/-
  Contracts of package elf: what is odd is told by a panic, caught, and known.
-/
import Derived.Test.YtkfomhllaogplaaRows
import Derived.Test.YtkfomhllaogplaaEP
import Derived.WalkKit
import Derived.WalkLawsBesides
import Derived.Below
import Derived.Defers
import Derived.Recover
namespace Go.Proofs.Ytkfomhllaogplaa
open Go.RowKit El

/-- What is told by a panic, of an error. -/
def odd (k : Int) : Value :=
  .iface (if k = 2 then 103 else if k = 60 then 111 else if k = 61 then 112 else if k = 62 then 104 else 106) (.agg #[])
/-- How the work ends: with what it answers, or by telling what is odd. -/
def ends (k : Int) (v : Value) : Ending := if k = 0 then .returned v else .panicked [{ v := odd k, recovered := false }]
def Told (k : Int) : Prop := k = 2 ∨ k = 60 ∨ k = 61 ∨ k = 62 ∨ k = 63
theorem ends_zero (v : Value) : ends 0 v = .returned v := rfl
theorem ends_odd {k : Int} (h : k ≠ 0) (v : Value) : ends k v = .panicked [{ v := odd k, recovered := false }] := if_neg h
theorem Told.ne {k : Int} (h : Told k) : k ≠ 0 := by rcases h with rfl | rfl | rfl | rfl | rfl <;> decide
theorem odd_iface (k : Int) : ∃ t, odd k = .iface t (.agg #[]) := ⟨_, rfl⟩

theorem insist_yes (v : Value) (w : World) : Calls Try.prog 59 #[.bool true, v] w fun e w' => e = .returned (.tuple #[]) ∧ w' = w := by
  go_enter Try.func59, Try.ntmps59
  go_wp2
  go_end0
  exact ⟨rfl, rfl⟩
theorem insist_no (t : TypeId) (v : Value) (w : World) : Calls Try.prog 59 #[.bool false, .iface t v] w fun e w' => e = .panicked [{ v := .iface t v, recovered := false }] ∧ w' = w := by
  go_enter Try.func59, Try.ntmps59
  go_wp2
  exact ⟨rfl, rfl, rfl⟩
theorem known_nil (w : World) : Calls Try.prog 58 #[.nilIface] w fun e w' => e = .returned (.int .i64 0) ∧ w' = w := by
  go_enter Try.func58, Try.ntmps58
  go_wp2
  go_ret
  exact ⟨rfl, rfl⟩
theorem known_2 (w : World) : Calls Try.prog 58 #[.iface 103 (.agg #[])] w fun e w' => e = .returned (.int .i64 2) ∧ w' = w := by
  have a0 : ∀ W, (Instr.typeAssert (.iface 103 (.agg #[])) 20 103 true).run Try.prog W = .ok (.tuple #[.agg #[], .bool true]) W := fun W => by kernel_rfl
  go_enter Try.func58, Try.ntmps58
  go_wp2
  go_ret
  exact ⟨rfl, rfl⟩
theorem known_60 (w : World) : Calls Try.prog 58 #[.iface 111 (.agg #[])] w fun e w' => e = .returned (.int .i64 60) ∧ w' = w := by
  have a0 : ∀ W, (Instr.typeAssert (.iface 111 (.agg #[])) 20 103 true).run Try.prog W = .ok (.tuple #[.agg #[], .bool false]) W := fun W => by kernel_rfl
  have a1 : ∀ W, (Instr.typeAssert (.iface 111 (.agg #[])) 20 111 true).run Try.prog W = .ok (.tuple #[.agg #[], .bool true]) W := fun W => by kernel_rfl
  go_enter Try.func58, Try.ntmps58
  go_wp2
  go_ret
  exact ⟨rfl, rfl⟩
theorem known_61 (w : World) : Calls Try.prog 58 #[.iface 112 (.agg #[])] w fun e w' => e = .returned (.int .i64 61) ∧ w' = w := by
  have a0 : ∀ W, (Instr.typeAssert (.iface 112 (.agg #[])) 20 103 true).run Try.prog W = .ok (.tuple #[.agg #[], .bool false]) W := fun W => by kernel_rfl
  have a1 : ∀ W, (Instr.typeAssert (.iface 112 (.agg #[])) 20 111 true).run Try.prog W = .ok (.tuple #[.agg #[], .bool false]) W := fun W => by kernel_rfl
  have a2 : ∀ W, (Instr.typeAssert (.iface 112 (.agg #[])) 20 112 true).run Try.prog W = .ok (.tuple #[.agg #[], .bool true]) W := fun W => by kernel_rfl
  go_enter Try.func58, Try.ntmps58
  go_wp2
  go_ret
  exact ⟨rfl, rfl⟩
theorem known_62 (w : World) : Calls Try.prog 58 #[.iface 104 (.agg #[])] w fun e w' => e = .returned (.int .i64 62) ∧ w' = w := by
  have a0 : ∀ W, (Instr.typeAssert (.iface 104 (.agg #[])) 20 103 true).run Try.prog W = .ok (.tuple #[.agg #[], .bool false]) W := fun W => by kernel_rfl
  have a1 : ∀ W, (Instr.typeAssert (.iface 104 (.agg #[])) 20 111 true).run Try.prog W = .ok (.tuple #[.agg #[], .bool false]) W := fun W => by kernel_rfl
  have a2 : ∀ W, (Instr.typeAssert (.iface 104 (.agg #[])) 20 112 true).run Try.prog W = .ok (.tuple #[.agg #[], .bool false]) W := fun W => by kernel_rfl
  have a3 : ∀ W, (Instr.typeAssert (.iface 104 (.agg #[])) 20 104 true).run Try.prog W = .ok (.tuple #[.agg #[], .bool true]) W := fun W => by kernel_rfl
  go_enter Try.func58, Try.ntmps58
  go_wp2
  go_ret
  exact ⟨rfl, rfl⟩
theorem known_63 (w : World) : Calls Try.prog 58 #[.iface 106 (.agg #[])] w fun e w' => e = .returned (.int .i64 63) ∧ w' = w := by
  have a0 : ∀ W, (Instr.typeAssert (.iface 106 (.agg #[])) 20 103 true).run Try.prog W = .ok (.tuple #[.agg #[], .bool false]) W := fun W => by kernel_rfl
  have a1 : ∀ W, (Instr.typeAssert (.iface 106 (.agg #[])) 20 111 true).run Try.prog W = .ok (.tuple #[.agg #[], .bool false]) W := fun W => by kernel_rfl
  have a2 : ∀ W, (Instr.typeAssert (.iface 106 (.agg #[])) 20 112 true).run Try.prog W = .ok (.tuple #[.agg #[], .bool false]) W := fun W => by kernel_rfl
  have a3 : ∀ W, (Instr.typeAssert (.iface 106 (.agg #[])) 20 104 true).run Try.prog W = .ok (.tuple #[.agg #[], .bool false]) W := fun W => by kernel_rfl
  have a4 : ∀ W, (Instr.typeAssert (.iface 106 (.agg #[])) 20 106 true).run Try.prog W = .ok (.tuple #[.agg #[], .bool true]) W := fun W => by kernel_rfl
  go_enter Try.func58, Try.ntmps58
  go_wp2
  go_ret
  exact ⟨rfl, rfl⟩
theorem known_odd (k : Int) (h : Told k) (w : World) : Calls Try.prog 58 #[odd k] w fun e w' => e = .returned (.int .i64 k) ∧ w' = w := by
  rcases h with rfl | rfl | rfl | rfl | rfl
  · exact known_2 w
  · exact known_60 w
  · exact known_61 w
  · exact known_62 w
  · exact known_63 w

/-! ### the deferred function -/
theorem catch_odd (k : Int) (h : Told k) (p : Addr) (x : Int) (older : List PanicEntry) (w : World) (hc : w.cell? p = some (.int .i64 x)) (hz : w.frozen? p = false) :
    CallsD Try.prog 57 #[.pointer (some p)] (.panicking ({ v := odd k, recovered := false } :: older)) w fun e u' w' =>
      e = .returned (.tuple #[]) ∧ u' = .panicking ({ v := odd k, recovered := true } :: older) ∧ w' = w.setCell p (.int .i64 k) := by
  refine callsD_of_wpS Try.func57 rfl fun c₀ cs hu => ?_
  apply wpS_region
  simp [wpOpsS, go_sem, recoverD, hu, Try.ntmps57]
  refine (known_odd k h w).mono ?_
  rintro e w1 ⟨rfl, rfl⟩
  simp [go_sem, hc, hz, bodyPostS, results, Try.results57]
theorem catch_nil (p : Addr) (x : Int) (w : World) (hc : w.cell? p = some (.int .i64 x)) (hz : w.frozen? p = false) :
    CallsD Try.prog 57 #[.pointer (some p)] .returning w fun e u' w' => e = .returned (.tuple #[]) ∧ u' = .returning ∧ w' = w.setCell p (.int .i64 0) := by
  refine callsD_of_wpS Try.func57 rfl fun c₀ cs hu => ?_
  apply wpS_region
  simp [wpOpsS, go_sem, recoverD, hu, Try.ntmps57]
  refine (known_nil w).mono ?_
  rintro e w1 ⟨rfl, rfl⟩
  cases c₀
  simp_all [go_sem, bodyPostS, results, Try.results57]
end Go.Proofs.Ytkfomhllaogplaa
