/-
  Contracts of package inst's small functions, more: the pieces of a form's number; a kind's word; whether a word is of a kind.
-/
import Derived.Test.YtilphdfobflbiaaIS
namespace Go.Proofs.Ytilphdfobflbiaa
open Go.RowKit Ip

def Ps (f : Nat) : Array Value := ((pcs f).map fun x => Value.int .i64 x).toArray
def Z12 : Array Value := Array.replicate 12 (.int .i64 0)
theorem zero12 (w : World) : (zeroValue 134).run Try.prog w = .ok (.agg Z12) w := by kernel_rfl
theorem pieces_any (f : Nat) (h : is8 f) (w : World) : Calls Try.prog 90 #[.int .u8 (f : Int)] w fun e w' => e = .returned (.agg (Ps f)) ∧ Below w.heap.size w w' := by
  have hz := zero12
  rcases h with rfl | rfl | rfl | rfl | rfl | rfl | rfl | rfl
  · go_enter Try.func90, Try.ntmps90
    go_wp2_with (first | (refine wpList_build rfl 133 _ rfl (by kernel_rfl) ?_) | (refine wpList_build rfl 134 _ rfl (by kernel_rfl) ?_) | (refine wpList_store_row rfl 134 _ _ rfl w.heap.size (Ps 85) (by kernel_rfl) (by kernel_rfl) _ Z12 (heap_alloc_new _ _) (by kernel_rfl) (by kernel_rfl) (by kernel_rfl) ?_))
    refine bodyPost_ret (v := .agg (Ps 85)) (results_cell_row (p := 2) (by kernel_rfl) _ _ w.heap.size _ (Ps 85) _ _ (by kernel_rfl) (setRow_heap _ _ _ _ _ _ (heap_alloc_new _ _)) Try.underlying134 rfl (by kernel_rfl)) rfl ⟨rfl, below_setRow ((Below.refl _ _).alloc (Nat.le_refl _) _) (Nat.le_refl _) _⟩
  · go_enter Try.func90, Try.ntmps90
    go_wp2_with (first | (refine wpList_build rfl 133 _ rfl (by kernel_rfl) ?_) | (refine wpList_build rfl 134 _ rfl (by kernel_rfl) ?_) | (refine wpList_store_row rfl 134 _ _ rfl w.heap.size (Ps 74) (by kernel_rfl) (by kernel_rfl) _ Z12 (heap_alloc_new _ _) (by kernel_rfl) (by kernel_rfl) (by kernel_rfl) ?_))
    refine bodyPost_ret (v := .agg (Ps 74)) (results_cell_row (p := 2) (by kernel_rfl) _ _ w.heap.size _ (Ps 74) _ _ (by kernel_rfl) (setRow_heap _ _ _ _ _ _ (heap_alloc_new _ _)) Try.underlying134 rfl (by kernel_rfl)) rfl ⟨rfl, below_setRow ((Below.refl _ _).alloc (Nat.le_refl _) _) (Nat.le_refl _) _⟩
  · go_enter Try.func90, Try.ntmps90
    go_wp2_with (first | (refine wpList_build rfl 133 _ rfl (by kernel_rfl) ?_) | (refine wpList_build rfl 134 _ rfl (by kernel_rfl) ?_) | (refine wpList_store_row rfl 134 _ _ rfl w.heap.size (Ps 73) (by kernel_rfl) (by kernel_rfl) _ Z12 (heap_alloc_new _ _) (by kernel_rfl) (by kernel_rfl) (by kernel_rfl) ?_))
    refine bodyPost_ret (v := .agg (Ps 73)) (results_cell_row (p := 2) (by kernel_rfl) _ _ w.heap.size _ (Ps 73) _ _ (by kernel_rfl) (setRow_heap _ _ _ _ _ _ (heap_alloc_new _ _)) Try.underlying134 rfl (by kernel_rfl)) rfl ⟨rfl, below_setRow ((Below.refl _ _).alloc (Nat.le_refl _) _) (Nat.le_refl _) _⟩
  · go_enter Try.func90, Try.ntmps90
    go_wp2_with (first | (refine wpList_build rfl 133 _ rfl (by kernel_rfl) ?_) | (refine wpList_build rfl 134 _ rfl (by kernel_rfl) ?_) | (refine wpList_store_row rfl 134 _ _ rfl w.heap.size (Ps 72) (by kernel_rfl) (by kernel_rfl) _ Z12 (heap_alloc_new _ _) (by kernel_rfl) (by kernel_rfl) (by kernel_rfl) ?_))
    refine bodyPost_ret (v := .agg (Ps 72)) (results_cell_row (p := 2) (by kernel_rfl) _ _ w.heap.size _ (Ps 72) _ _ (by kernel_rfl) (setRow_heap _ _ _ _ _ _ (heap_alloc_new _ _)) Try.underlying134 rfl (by kernel_rfl)) rfl ⟨rfl, below_setRow ((Below.refl _ _).alloc (Nat.le_refl _) _) (Nat.le_refl _) _⟩
  · go_enter Try.func90, Try.ntmps90
    go_wp2_with (first | (refine wpList_build rfl 133 _ rfl (by kernel_rfl) ?_) | (refine wpList_build rfl 134 _ rfl (by kernel_rfl) ?_) | (refine wpList_store_row rfl 134 _ _ rfl w.heap.size (Ps 66) (by kernel_rfl) (by kernel_rfl) _ Z12 (heap_alloc_new _ _) (by kernel_rfl) (by kernel_rfl) (by kernel_rfl) ?_))
    refine bodyPost_ret (v := .agg (Ps 66)) (results_cell_row (p := 2) (by kernel_rfl) _ _ w.heap.size _ (Ps 66) _ _ (by kernel_rfl) (setRow_heap _ _ _ _ _ _ (heap_alloc_new _ _)) Try.underlying134 rfl (by kernel_rfl)) rfl ⟨rfl, below_setRow ((Below.refl _ _).alloc (Nat.le_refl _) _) (Nat.le_refl _) _⟩
  · go_enter Try.func90, Try.ntmps90
    go_wp2_with (first | (refine wpList_build rfl 133 _ rfl (by kernel_rfl) ?_) | (refine wpList_build rfl 134 _ rfl (by kernel_rfl) ?_) | (refine wpList_store_row rfl 134 _ _ rfl w.heap.size (Ps 83) (by kernel_rfl) (by kernel_rfl) _ Z12 (heap_alloc_new _ _) (by kernel_rfl) (by kernel_rfl) (by kernel_rfl) ?_))
    refine bodyPost_ret (v := .agg (Ps 83)) (results_cell_row (p := 2) (by kernel_rfl) _ _ w.heap.size _ (Ps 83) _ _ (by kernel_rfl) (setRow_heap _ _ _ _ _ _ (heap_alloc_new _ _)) Try.underlying134 rfl (by kernel_rfl)) rfl ⟨rfl, below_setRow ((Below.refl _ _).alloc (Nat.le_refl _) _) (Nat.le_refl _) _⟩
  · go_enter Try.func90, Try.ntmps90
    go_wp2_with (first | (refine wpList_build rfl 133 _ rfl (by kernel_rfl) ?_) | (refine wpList_build rfl 134 _ rfl (by kernel_rfl) ?_) | (refine wpList_store_row rfl 134 _ _ rfl w.heap.size (Ps 82) (by kernel_rfl) (by kernel_rfl) _ Z12 (heap_alloc_new _ _) (by kernel_rfl) (by kernel_rfl) (by kernel_rfl) ?_))
    refine bodyPost_ret (v := .agg (Ps 82)) (results_cell_row (p := 2) (by kernel_rfl) _ _ w.heap.size _ (Ps 82) _ _ (by kernel_rfl) (setRow_heap _ _ _ _ _ _ (heap_alloc_new _ _)) Try.underlying134 rfl (by kernel_rfl)) rfl ⟨rfl, below_setRow ((Below.refl _ _).alloc (Nat.le_refl _) _) (Nat.le_refl _) _⟩
  · go_enter Try.func90, Try.ntmps90
    go_wp2_with (first | (refine wpList_build rfl 133 _ rfl (by kernel_rfl) ?_) | (refine wpList_build rfl 134 _ rfl (by kernel_rfl) ?_) | (refine wpList_store_row rfl 134 _ _ rfl w.heap.size (Ps 69) (by kernel_rfl) (by kernel_rfl) _ Z12 (heap_alloc_new _ _) (by kernel_rfl) (by kernel_rfl) (by kernel_rfl) ?_))
    refine bodyPost_ret (v := .agg (Ps 69)) (results_cell_row (p := 2) (by kernel_rfl) _ _ w.heap.size _ (Ps 69) _ _ (by kernel_rfl) (setRow_heap _ _ _ _ _ _ (heap_alloc_new _ _)) Try.underlying134 rfl (by kernel_rfl)) rfl ⟨rfl, below_setRow ((Below.refl _ _).alloc (Nat.le_refl _) _) (Nat.le_refl _) _⟩

theorem piece_at (f : Nat) (h : is8 f) (i : Nat) (hi : i < 4) (w : World) : (Instr.index 134 (.agg (Ps f)) (.int .i64 (i : Int))).run Try.prog w = .ok (.agg #[.int .i64 (pa f i), .int .i64 (pn f i), .int .i64 (pt f i)]) w := by
  have e : i = 0 ∨ i = 1 ∨ i = 2 ∨ i = 3 := by omega
  rcases h with rfl | rfl | rfl | rfl | rfl | rfl | rfl | rfl
  all_goals
    rcases e with rfl | rfl | rfl | rfl
    all_goals (show _ = _; kernel_rfl)

theorem stem_any (f o a b : Nat) (hf : f < 256) (ho : o < 256) (ha : a < 256) (hb : b < 256) (w : World) : Calls Try.prog 109 #[.agg #[.int .u8 (f : Int), .int .u8 (o : Int), .int .u8 (a : Int), .int .u8 (b : Int)]] w fun e w' => e = .returned (.int .u32 ((stemW f o a b).toNat : Int)) ∧ Below w.heap.size w w' := by
  have eo : (o : Int) = ((BitVec.ofNat 32 o).toNat : Int) := by rw [BitVec.toNat_ofNat]; omega
  have ea : (a : Int) = ((BitVec.ofNat 32 a).toNat : Int) := by rw [BitVec.toNat_ofNat]; omega
  have eb : (b : Int) = ((BitVec.ofNat 32 b).toNat : Int) := by rw [BitVec.toNat_ofNat]; omega
  have EO : Hid ((o : Int) = ((BitVec.ofNat 32 o).toNat : Int)) := eo
  have EA : Hid ((a : Int) = ((BitVec.ofNat 32 a).toNat : Int)) := ea
  have EB : Hid ((b : Int) = ((BitVec.ofNat 32 b).toNat : Int)) := eb
  clear eo ea eb
  by_cases h : ((f : Int) == 69) = true
  · have e : f = 69 := by have := of_decide_eq_true h; omega
    have H : Hid (f = 69) := e
    clear e
    go_enter Try.func109, Try.ntmps109
    go_wp2_with fail
    refine (put_at _ 12 3 _ _ _ EO.out EA.out _).mono ?_
    rintro e w1 ⟨rfl, k, rfl⟩
    go_wp2_with fail
    refine (put_at _ 20 12 _ _ _ rfl EB.out _).mono ?_
    rintro e w1 ⟨rfl, k, rfl⟩
    go_wp2_with fail
    go_ret
    exact ⟨ret_int (by unfold stemW high; rw [if_pos H.out]; rfl), below_drewN ((Below.refl _ _).alloc (Nat.le_refl _) _) _⟩
  · have e : ¬ f = 69 := by intro c; subst c; exact h rfl
    have h' : ((f : Int) == 69) = false := by simpa using h
    have H : Hid (¬ f = 69) := e
    clear e h
    go_enter Try.func109, Try.ntmps109
    go_wp2_with fail
    refine (put_at _ 12 3 _ _ _ EO.out EA.out _).mono ?_
    rintro e w1 ⟨rfl, k, rfl⟩
    go_wp2_with fail
    refine (put_at _ 25 7 _ _ _ rfl EB.out _).mono ?_
    rintro e w1 ⟨rfl, k, rfl⟩
    go_wp2_with fail
    go_ret
    exact ⟨ret_int (by unfold stemW high; rw [if_neg H.out]; rfl), below_drewN ((Below.refl _ _).alloc (Nat.le_refl _) _) _⟩

theorem told_any (f o a b : Nat) (h : is8 f) (ho : o < 256) (ha : a < 256) (hb : b < 256) (x : BitVec 32) (p q : Int) (w : World) : Calls Try.prog 89 #[.agg #[.int .u8 (f : Int), .int .u8 (o : Int), .int .u8 (a : Int), .int .u8 (b : Int)], .int .u32 (x.toNat : Int), .int .u8 p, .int .u8 q] w fun e w' => e = .returned (.bool (told f o a b x p q)) ∧ Below w.heap.size w w' := by
  rcases h with rfl | rfl | rfl | rfl | rfl | rfl | rfl | rfl
  all_goals
    by_cases hp : (p == (a : Int)) = true
    all_goals
      go_enter Try.func89, Try.ntmps89
      go_wp2_with (go_at_call 109; refine (stem_any _ _ _ _ (by decide) ho ha hb _).mono ?_; rintro e w1 ⟨rfl, hk⟩)
      go_ret
      refine ⟨ret_bool ?_, ?_⟩
      · first | rfl | simp [told, hp]
      · first | exact (Below.refl _ _).alloc (Nat.le_refl _) _ | exact ((Below.refl _ _).alloc (Nat.le_refl _) _).trans (hk.mono (by simp))
end Go.Proofs.Ytilphdfobflbiaa
