/-
  Contracts of the document's tables: each lies in new memory.
-/
import Derived.Test.YtoiheamdnlaahaaRR
namespace Go.Proofs.Ytoiheamdnlaahaa
open Go.RowKit Ip

def TO : Array Value := #[.int .u32 55, .int .u32 23, .int .u32 111, .int .u32 103, .int .u32 99, .int .u32 99, .int .u32 99, .int .u32 99, .int .u32 99, .int .u32 99, .int .u32 3, .int .u32 3, .int .u32 3, .int .u32 3, .int .u32 3, .int .u32 35, .int .u32 35, .int .u32 35, .int .u32 19, .int .u32 19, .int .u32 19, .int .u32 19, .int .u32 19, .int .u32 19, .int .u32 19, .int .u32 19, .int .u32 19, .int .u32 51, .int .u32 51, .int .u32 51, .int .u32 51, .int .u32 51, .int .u32 51, .int .u32 51, .int .u32 51, .int .u32 51, .int .u32 51, .int .u32 51, .int .u32 51, .int .u32 51, .int .u32 51, .int .u32 51, .int .u32 51, .int .u32 51, .int .u32 51, .int .u32 115, .int .u32 115]
def T3 : Array Value := #[.int .u32 0, .int .u32 0, .int .u32 0, .int .u32 0, .int .u32 0, .int .u32 1, .int .u32 4, .int .u32 5, .int .u32 6, .int .u32 7, .int .u32 0, .int .u32 1, .int .u32 2, .int .u32 4, .int .u32 5, .int .u32 0, .int .u32 1, .int .u32 2, .int .u32 0, .int .u32 2, .int .u32 3, .int .u32 4, .int .u32 6, .int .u32 7, .int .u32 1, .int .u32 5, .int .u32 5, .int .u32 0, .int .u32 0, .int .u32 1, .int .u32 2, .int .u32 3, .int .u32 4, .int .u32 5, .int .u32 5, .int .u32 6, .int .u32 7, .int .u32 0, .int .u32 1, .int .u32 2, .int .u32 3, .int .u32 4, .int .u32 5, .int .u32 6, .int .u32 7, .int .u32 0, .int .u32 0]
def T7 : Array Value := #[.int .u32 0, .int .u32 0, .int .u32 0, .int .u32 0, .int .u32 0, .int .u32 0, .int .u32 0, .int .u32 0, .int .u32 0, .int .u32 0, .int .u32 0, .int .u32 0, .int .u32 0, .int .u32 0, .int .u32 0, .int .u32 0, .int .u32 0, .int .u32 0, .int .u32 0, .int .u32 0, .int .u32 0, .int .u32 0, .int .u32 0, .int .u32 0, .int .u32 0, .int .u32 0, .int .u32 32, .int .u32 0, .int .u32 32, .int .u32 0, .int .u32 0, .int .u32 0, .int .u32 0, .int .u32 0, .int .u32 32, .int .u32 0, .int .u32 0, .int .u32 1, .int .u32 1, .int .u32 1, .int .u32 1, .int .u32 1, .int .u32 1, .int .u32 1, .int .u32 1, .int .u32 0, .int .u32 0]
theorem rops_any (w : World) : Calls Try.prog 29 #[] w fun e w' => e = .returned (.slice (some ⟨w.heap.size, 0, none⟩) 47 47) ∧ w' = w.alloc (.cells TO 22) := by
  go_enter Try.func29, Try.ntmps29
  go_wp2
  go_ret
  exact ⟨rfl, rfl⟩
theorem rf3_any (w : World) : Calls Try.prog 30 #[] w fun e w' => e = .returned (.slice (some ⟨w.heap.size, 0, none⟩) 47 47) ∧ w' = w.alloc (.cells T3 22) := by
  go_enter Try.func30, Try.ntmps30
  go_wp2
  go_ret
  exact ⟨rfl, rfl⟩
theorem rf7_any (w : World) : Calls Try.prog 31 #[] w fun e w' => e = .returned (.slice (some ⟨w.heap.size, 0, none⟩) 47 47) ∧ w' = w.alloc (.cells T7 22) := by
  go_enter Try.func31, Try.ntmps31
  go_wp2
  go_ret
  exact ⟨rfl, rfl⟩
theorem TO_at (k : Nat) (h : k < 47) : TO[k]? = some (.int .u32 (ko k : Int)) := by
  revert k
  refine cases47 ?_ ?_ ?_ ?_ ?_ ?_ ?_ ?_ ?_ ?_ ?_ ?_ ?_ ?_ ?_ ?_ ?_ ?_ ?_ ?_ ?_ ?_ ?_ ?_ ?_ ?_ ?_ ?_ ?_ ?_ ?_ ?_ ?_ ?_ ?_ ?_ ?_ ?_ ?_ ?_ ?_ ?_ ?_ ?_ ?_ ?_ ?_
  all_goals rfl
theorem T3_at (k : Nat) (h : k < 47) : T3[k]? = some (.int .u32 (k3 k : Int)) := by
  revert k
  refine cases47 ?_ ?_ ?_ ?_ ?_ ?_ ?_ ?_ ?_ ?_ ?_ ?_ ?_ ?_ ?_ ?_ ?_ ?_ ?_ ?_ ?_ ?_ ?_ ?_ ?_ ?_ ?_ ?_ ?_ ?_ ?_ ?_ ?_ ?_ ?_ ?_ ?_ ?_ ?_ ?_ ?_ ?_ ?_ ?_ ?_ ?_ ?_
  all_goals rfl
theorem T7_at (k : Nat) (h : k < 46) : T7[k]? = some (.int .u32 (k7 k : Int)) := by
  have h2 : k < 47 := by omega
  revert h
  revert k
  refine cases47 ?_ ?_ ?_ ?_ ?_ ?_ ?_ ?_ ?_ ?_ ?_ ?_ ?_ ?_ ?_ ?_ ?_ ?_ ?_ ?_ ?_ ?_ ?_ ?_ ?_ ?_ ?_ ?_ ?_ ?_ ?_ ?_ ?_ ?_ ?_ ?_ ?_ ?_ ?_ ?_ ?_ ?_ ?_ ?_ ?_ ?_ ?_
  all_goals first | (intro _; rfl) | (intro h; omega)
def plc (f : Nat) : List Int := if f = 85 then [12, 13, 14, 15, 16, 17, 18, 19, 20, 21, 22, 23, 24, 25, 26, 27, 28, 29, 30, 31] else if f = 74 then [-1, 21, 22, 23, 24, 25, 26, 27, 28, 29, 30, 20, 12, 13, 14, 15, 16, 17, 18, 19, 31] else if f = 73 then [20, 21, 22, 23, 24, 25, 26, 27, 28, 29, 30, 31] else if f = 83 then [7, 8, 9, 10, 11, 25, 26, 27, 28, 29, 30, 31] else if f = 66 then [-1, 8, 9, 10, 11, 25, 26, 27, 28, 29, 30, 7, 31] else if f = 72 then [20, 21, 22, 23, 24] else []
def PA (f : Nat) : Array Value := ((plc f).map fun x => Value.int .i64 x).toArray
def pln (f : Nat) : Nat := (plc f).length
set_option maxHeartbeats 2000000 in
theorem rplaces_any (f : Nat) (h : is8 f) (w : World) : Calls Try.prog 32 #[.int .u8 (f : Int)] w fun e w' => e = .returned (.slice (some ⟨w.heap.size, 0, none⟩) (pln f) (pln f)) ∧ w' = w.alloc (.cells (PA f) 3) := by
  rcases h with rfl | rfl | rfl | rfl | rfl | rfl | rfl | rfl
  all_goals
    go_enter Try.func32, Try.ntmps32
    go_wp2
    go_ret
    exact ⟨rfl, rfl⟩
theorem PA_at (f j : Nat) (h : j < pln f) : (PA f)[j]? = some (.int .i64 ((plc f).getD j 0)) := by
  unfold PA pln at *
  simp [h]
end Go.Proofs.Ytoiheamdnlaahaa
