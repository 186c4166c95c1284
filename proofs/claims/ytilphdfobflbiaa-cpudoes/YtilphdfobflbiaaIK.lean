/-
  The table of kinds: its call answers the table, in new memory; each of its rows, by its number.
-/
import Derived.Test.YtilphdfobflbiaaIW
import Derived.Test.YtilphdfobflbiaaIP
namespace Go.Proofs.Ytilphdfobflbiaa
open Go.RowKit Ip
def Zs : Array Value := Array.replicate 188 (.int .u8 0)
def Ks : Array Value := #[.int .u8 85, .int .u8 55, .int .u8 0, .int .u8 0, .int .u8 85, .int .u8 23, .int .u8 0, .int .u8 0, .int .u8 74, .int .u8 111, .int .u8 0, .int .u8 0, .int .u8 73, .int .u8 103, .int .u8 0, .int .u8 0, .int .u8 66, .int .u8 99, .int .u8 0, .int .u8 0, .int .u8 66, .int .u8 99, .int .u8 1, .int .u8 0, .int .u8 66, .int .u8 99, .int .u8 4, .int .u8 0, .int .u8 66, .int .u8 99, .int .u8 5, .int .u8 0, .int .u8 66, .int .u8 99, .int .u8 6, .int .u8 0, .int .u8 66, .int .u8 99, .int .u8 7, .int .u8 0, .int .u8 73, .int .u8 3, .int .u8 0, .int .u8 0, .int .u8 73, .int .u8 3, .int .u8 1, .int .u8 0, .int .u8 73, .int .u8 3, .int .u8 2, .int .u8 0, .int .u8 73, .int .u8 3, .int .u8 4, .int .u8 0, .int .u8 73, .int .u8 3, .int .u8 5, .int .u8 0, .int .u8 83, .int .u8 35, .int .u8 0, .int .u8 0, .int .u8 83, .int .u8 35, .int .u8 1, .int .u8 0, .int .u8 83, .int .u8 35, .int .u8 2, .int .u8 0, .int .u8 73, .int .u8 19, .int .u8 0, .int .u8 0, .int .u8 73, .int .u8 19, .int .u8 2, .int .u8 0, .int .u8 73, .int .u8 19, .int .u8 3, .int .u8 0, .int .u8 73, .int .u8 19, .int .u8 4, .int .u8 0, .int .u8 73, .int .u8 19, .int .u8 6, .int .u8 0, .int .u8 73, .int .u8 19, .int .u8 7, .int .u8 0, .int .u8 72, .int .u8 19, .int .u8 1, .int .u8 0, .int .u8 72, .int .u8 19, .int .u8 5, .int .u8 0, .int .u8 72, .int .u8 19, .int .u8 5, .int .u8 32, .int .u8 82, .int .u8 51, .int .u8 0, .int .u8 0, .int .u8 82, .int .u8 51, .int .u8 0, .int .u8 32, .int .u8 82, .int .u8 51, .int .u8 1, .int .u8 0, .int .u8 82, .int .u8 51, .int .u8 2, .int .u8 0, .int .u8 82, .int .u8 51, .int .u8 3, .int .u8 0, .int .u8 82, .int .u8 51, .int .u8 4, .int .u8 0, .int .u8 82, .int .u8 51, .int .u8 5, .int .u8 0, .int .u8 82, .int .u8 51, .int .u8 5, .int .u8 32, .int .u8 82, .int .u8 51, .int .u8 6, .int .u8 0, .int .u8 82, .int .u8 51, .int .u8 7, .int .u8 0, .int .u8 82, .int .u8 51, .int .u8 0, .int .u8 1, .int .u8 82, .int .u8 51, .int .u8 1, .int .u8 1, .int .u8 82, .int .u8 51, .int .u8 2, .int .u8 1, .int .u8 82, .int .u8 51, .int .u8 3, .int .u8 1, .int .u8 82, .int .u8 51, .int .u8 4, .int .u8 1, .int .u8 82, .int .u8 51, .int .u8 5, .int .u8 1, .int .u8 82, .int .u8 51, .int .u8 6, .int .u8 1, .int .u8 82, .int .u8 51, .int .u8 7, .int .u8 1, .int .u8 69, .int .u8 115, .int .u8 0, .int .u8 0, .int .u8 69, .int .u8 115, .int .u8 0, .int .u8 1]
theorem zero48 (w : World) : (zeroValue 120).run Try.prog w = .ok (.agg Zs) w := by kernel_rfl
theorem below_setRow {B : Nat} {a w : World} (h : Below B a w) {g : Nat} (hg : B ≤ g) (cs : Array Value) : Below B a (w.setRow g cs) :=
  h.trans ⟨rfl, rfl, rfl, by simp, fun k hk => setRow_other w g k cs (by omega)⟩
set_option maxRecDepth 100000 in
set_option maxHeartbeats 4000000 in
theorem kinds_any (w : World) : Calls Try.prog 75 #[] w fun e w' => e = .returned (.agg Ks) ∧ Below w.heap.size w w' := by
  have hz := zero48
  go_enter Try.func75, Try.ntmps75
  go_wp2_with (first | (refine wpList_build rfl 119 _ rfl (by kernel_rfl) ?_) | (refine wpList_build rfl 120 _ rfl (by kernel_rfl) ?_) | (refine wpList_store_row rfl 120 _ _ rfl w.heap.size Ks (by kernel_rfl) (by kernel_rfl) _ Zs (heap_alloc_new _ _) (by kernel_rfl) (by kernel_rfl) (by kernel_rfl) ?_))
  refine bodyPost_ret (v := .agg Ks) (results_cell_row (p := 0) (by kernel_rfl) _ _ w.heap.size _ Ks _ _ (by kernel_rfl) (setRow_heap _ _ _ _ _ _ (heap_alloc_new _ _)) Try.underlying120 rfl (by kernel_rfl)) rfl ⟨rfl, below_setRow ((Below.refl _ _).alloc (Nat.le_refl _) _) (Nat.le_refl _) _⟩

theorem index_at (k : Nat) (h : k < 47) (w : World) : (Instr.index 120 (.agg Ks) (.int .i64 (k : Int))).run Try.prog w = .ok (.agg #[.int .u8 (kf k : Int), .int .u8 (ko k : Int), .int .u8 (k3 k : Int), .int .u8 (k7 k : Int)]) w := by
  revert k
  refine cases47 ?_ ?_ ?_ ?_ ?_ ?_ ?_ ?_ ?_ ?_ ?_ ?_ ?_ ?_ ?_ ?_ ?_ ?_ ?_ ?_ ?_ ?_ ?_ ?_ ?_ ?_ ?_ ?_ ?_ ?_ ?_ ?_ ?_ ?_ ?_ ?_ ?_ ?_ ?_ ?_ ?_ ?_ ?_ ?_ ?_ ?_ ?_
  all_goals kernel_rfl
end Go.Proofs.Ytilphdfobflbiaa
