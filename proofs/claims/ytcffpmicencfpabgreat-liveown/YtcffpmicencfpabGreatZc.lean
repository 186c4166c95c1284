/-
  The table of kinds: its call answers the table, in new memory; each of its rows, by its number.
  Contracts of package inst's small functions: what each call answers; what was in memory stays.
  Contracts of package inst's small functions, more: the pieces of a form's number; a kind's word; whether a word is of a kind.
  Contracts of package inst's Form and Plain, and of a form's number out of a word and into one.
  Contract of package inst's find: the kind of a word's instruction.
  Contract of package inst's Decode: the instruction of a word, by its kind.
-/

import Derived.Test.YtcffpmicencfpabGreatZa
import Derived.Test.YtcffpmicencfpabGreatZb
namespace Go.Proofs.YtcffpmicencfpabGreat
open Go.RowKit Ip
def Zs : Array Value := Array.replicate 188 (.int .u8 0)
def Ks : Array Value := #[.int .u8 85, .int .u8 55, .int .u8 0, .int .u8 0, .int .u8 85, .int .u8 23, .int .u8 0, .int .u8 0, .int .u8 74, .int .u8 111, .int .u8 0, .int .u8 0, .int .u8 73, .int .u8 103, .int .u8 0, .int .u8 0, .int .u8 66, .int .u8 99, .int .u8 0, .int .u8 0, .int .u8 66, .int .u8 99, .int .u8 1, .int .u8 0, .int .u8 66, .int .u8 99, .int .u8 4, .int .u8 0, .int .u8 66, .int .u8 99, .int .u8 5, .int .u8 0, .int .u8 66, .int .u8 99, .int .u8 6, .int .u8 0, .int .u8 66, .int .u8 99, .int .u8 7, .int .u8 0, .int .u8 73, .int .u8 3, .int .u8 0, .int .u8 0, .int .u8 73, .int .u8 3, .int .u8 1, .int .u8 0, .int .u8 73, .int .u8 3, .int .u8 2, .int .u8 0, .int .u8 73, .int .u8 3, .int .u8 4, .int .u8 0, .int .u8 73, .int .u8 3, .int .u8 5, .int .u8 0, .int .u8 83, .int .u8 35, .int .u8 0, .int .u8 0, .int .u8 83, .int .u8 35, .int .u8 1, .int .u8 0, .int .u8 83, .int .u8 35, .int .u8 2, .int .u8 0, .int .u8 73, .int .u8 19, .int .u8 0, .int .u8 0, .int .u8 73, .int .u8 19, .int .u8 2, .int .u8 0, .int .u8 73, .int .u8 19, .int .u8 3, .int .u8 0, .int .u8 73, .int .u8 19, .int .u8 4, .int .u8 0, .int .u8 73, .int .u8 19, .int .u8 6, .int .u8 0, .int .u8 73, .int .u8 19, .int .u8 7, .int .u8 0, .int .u8 72, .int .u8 19, .int .u8 1, .int .u8 0, .int .u8 72, .int .u8 19, .int .u8 5, .int .u8 0, .int .u8 72, .int .u8 19, .int .u8 5, .int .u8 32, .int .u8 82, .int .u8 51, .int .u8 0, .int .u8 0, .int .u8 82, .int .u8 51, .int .u8 0, .int .u8 32, .int .u8 82, .int .u8 51, .int .u8 1, .int .u8 0, .int .u8 82, .int .u8 51, .int .u8 2, .int .u8 0, .int .u8 82, .int .u8 51, .int .u8 3, .int .u8 0, .int .u8 82, .int .u8 51, .int .u8 4, .int .u8 0, .int .u8 82, .int .u8 51, .int .u8 5, .int .u8 0, .int .u8 82, .int .u8 51, .int .u8 5, .int .u8 32, .int .u8 82, .int .u8 51, .int .u8 6, .int .u8 0, .int .u8 82, .int .u8 51, .int .u8 7, .int .u8 0, .int .u8 82, .int .u8 51, .int .u8 0, .int .u8 1, .int .u8 82, .int .u8 51, .int .u8 1, .int .u8 1, .int .u8 82, .int .u8 51, .int .u8 2, .int .u8 1, .int .u8 82, .int .u8 51, .int .u8 3, .int .u8 1, .int .u8 82, .int .u8 51, .int .u8 4, .int .u8 1, .int .u8 82, .int .u8 51, .int .u8 5, .int .u8 1, .int .u8 82, .int .u8 51, .int .u8 6, .int .u8 1, .int .u8 82, .int .u8 51, .int .u8 7, .int .u8 1, .int .u8 69, .int .u8 115, .int .u8 0, .int .u8 0, .int .u8 69, .int .u8 115, .int .u8 0, .int .u8 1]
theorem zero48 (w : World) : (zeroValue 118).run Tryz.prog w = .ok (.agg Zs) w := by kernel_rfl
theorem below_setRow {B : Nat} {a w : World} (h : Below B a w) {g : Nat} (hg : B ≤ g) (cs : Array Value) : Below B a (w.setRow g cs) :=
  h.trans ⟨rfl, rfl, rfl, by simp, fun k hk => setRow_other w g k cs (by omega)⟩
set_option maxRecDepth 100000 in
set_option maxHeartbeats 4000000 in
theorem kinds_any (w : World) : Calls Tryz.prog 77 #[] w fun e w' => e = .returned (.agg Ks) ∧ Below w.heap.size w w' := by
  have hz := zero48
  go_enter Tryz.func77, Tryz.ntmps77
  go_wp2_with (first | (refine wpList_build rfl 117 _ rfl (by kernel_rfl) ?_) | (refine wpList_build rfl 118 _ rfl (by kernel_rfl) ?_) | (refine wpList_store_row rfl 118 _ _ rfl w.heap.size Ks (by kernel_rfl) (by kernel_rfl) _ Zs (heap_alloc_new _ _) (by kernel_rfl) (by kernel_rfl) (by kernel_rfl) ?_))
  refine bodyPost_ret (v := .agg Ks) (results_cell_row (p := 0) (by kernel_rfl) _ _ w.heap.size _ Ks _ _ (by kernel_rfl) (setRow_heap _ _ _ _ _ _ (heap_alloc_new _ _)) Tryz.underlying118 rfl (by kernel_rfl)) rfl ⟨rfl, below_setRow ((Below.refl _ _).alloc (Nat.le_refl _) _) (Nat.le_refl _) _⟩

theorem index_at (k : Nat) (h : k < 47) (w : World) : (Instr.index 118 (.agg Ks) (.int .i64 (k : Int))).run Tryz.prog w = .ok (.agg #[.int .u8 (kf k : Int), .int .u8 (ko k : Int), .int .u8 (k3 k : Int), .int .u8 (k7 k : Int)]) w := by
  revert k
  refine cases47 ?_ ?_ ?_ ?_ ?_ ?_ ?_ ?_ ?_ ?_ ?_ ?_ ?_ ?_ ?_ ?_ ?_ ?_ ?_ ?_ ?_ ?_ ?_ ?_ ?_ ?_ ?_ ?_ ?_ ?_ ?_ ?_ ?_ ?_ ?_ ?_ ?_ ?_ ?_ ?_ ?_ ?_ ?_ ?_ ?_ ?_ ?_
  all_goals kernel_rfl
end Go.Proofs.YtcffpmicencfpabGreat
namespace Go.Proofs.YtcffpmicencfpabGreat
open Go.RowKit Ip

theorem fits_any (r : Int) (b : Bool) (w : World) : Calls Tryz.prog 53 #[.int .i64 r, .bool b] w fun e w' => e = .returned (.bool (fit r b)) ∧ w' = w := by
  cases b
  · go_enter Tryz.func53, Tryz.ntmps53
    go_wp2
    go_ret
    exact ⟨ret_bool (by unfold fit; rw [if_neg (by decide)]; rfl), rfl⟩
  · go_enter Tryz.func53, Tryz.ntmps53
    go_wp2
    all_goals go_ret
    all_goals refine ⟨ret_bool ?_, rfl⟩
    all_goals unfold fit
    all_goals rw [if_pos rfl]
    all_goals first | (rw [decide_eq_decide]; omega) | (symm; rw [decide_eq_false_iff_not]; omega)

theorem has_any (f : Nat) (h : is8 f) (w : World) : Calls Tryz.prog 52 #[.int .u8 (f : Int)] w fun e w' => e = .returned (.agg #[.bool (hRd f), .bool (hRs1 f), .bool (hRs2 f)]) ∧ Below w.heap.size w w' := by
  rcases h with rfl | rfl | rfl | rfl | rfl | rfl | rfl | rfl
  all_goals
    go_enter Tryz.func52, Tryz.ntmps52
    go_wp2
    exact bodyPost_ret (by simp [results, Tryz.results52, go_sem]; decide) rfl ⟨rfl, (Below.refl _ _).alloc (Nat.le_refl _) _⟩

theorem span_any (f : Nat) (h : is8 f) (w : World) : Calls Tryz.prog 54 #[.int .u8 (f : Int)] w fun e w' => e = .returned (.agg #[.int .i64 (lo f), .int .i64 (hi f), .int .i64 (st f)]) ∧ Below w.heap.size w w' := by
  rcases h with rfl | rfl | rfl | rfl | rfl | rfl | rfl | rfl
  all_goals
    go_enter Tryz.func54, Tryz.ntmps54
    go_wp2
    exact bodyPost_ret (by simp [results, Tryz.results54, go_sem]; decide) rfl ⟨rfl, (Below.refl _ _).alloc (Nat.le_refl _) _⟩

theorem signedBits_any (f : Nat) (h : is8 f) (w : World) : Calls Tryz.prog 87 #[.int .u8 (f : Int)] w fun e w' => e = .returned (.int .i64 (sb f)) ∧ w' = w := by
  rcases h with rfl | rfl | rfl | rfl | rfl | rfl | rfl | rfl
  all_goals
    go_enter Tryz.func87, Tryz.ntmps87
    go_wp2
    go_ret
    exact ⟨rfl, rfl⟩

theorem holds_any (a b c n : Int) (hc : 1 ≤ c) (w : World) : Calls Tryz.prog 55 #[.agg #[.int .i64 a, .int .i64 b, .int .i64 c], .int .i64 n] w fun e w' => e = .returned (.bool (inSpan a b c n)) ∧ Below w.heap.size w w' := by
  by_cases h1 : a ≤ n
  · by_cases h2 : n ≤ b
    · go_enter Tryz.func55, Tryz.ntmps55
      go_wp2
      go_ret
      exact ⟨ret_bool (by unfold inSpan; rw [Bool.eq_iff_iff, beq_iff_eq, decide_eq_true_eq, ← Int.dvd_iff_tmod_eq_zero, Int.dvd_iff_emod_eq_zero]; exact ⟨fun h => ⟨h1, h2, h⟩, fun h => h.2.2⟩), (Below.refl _ _).alloc (Nat.le_refl _) _⟩
    · go_enter Tryz.func55, Tryz.ntmps55
      go_wp2
      go_ret
      exact ⟨ret_bool (by unfold inSpan; symm; rw [decide_eq_false_iff_not]; omega), (Below.refl _ _).alloc (Nat.le_refl _) _⟩
  · go_enter Tryz.func55, Tryz.ntmps55
    go_wp2
    go_ret
    exact ⟨ret_bool (by unfold inSpan; symm; rw [decide_eq_false_iff_not]; omega), (Below.refl _ _).alloc (Nat.le_refl _) _⟩

end Go.Proofs.YtcffpmicencfpabGreat
namespace Go.Proofs.YtcffpmicencfpabGreat
open Go.RowKit Ip

def Ps (f : Nat) : Array Value := ((pcs f).map fun x => Value.int .i64 x).toArray
def Z12 : Array Value := Array.replicate 12 (.int .i64 0)
theorem zero12 (w : World) : (zeroValue 127).run Tryz.prog w = .ok (.agg Z12) w := by kernel_rfl
theorem pieces_any (f : Nat) (h : is8 f) (w : World) : Calls Tryz.prog 84 #[.int .u8 (f : Int)] w fun e w' => e = .returned (.agg (Ps f)) ∧ Below w.heap.size w w' := by
  have hz := zero12
  rcases h with rfl | rfl | rfl | rfl | rfl | rfl | rfl | rfl
  · go_enter Tryz.func84, Tryz.ntmps84
    go_wp2_with (first | (refine wpList_build rfl 126 _ rfl (by kernel_rfl) ?_) | (refine wpList_build rfl 127 _ rfl (by kernel_rfl) ?_) | (refine wpList_store_row rfl 127 _ _ rfl w.heap.size (Ps 85) (by kernel_rfl) (by kernel_rfl) _ Z12 (heap_alloc_new _ _) (by kernel_rfl) (by kernel_rfl) (by kernel_rfl) ?_))
    refine bodyPost_ret (v := .agg (Ps 85)) (results_cell_row (p := 2) (by kernel_rfl) _ _ w.heap.size _ (Ps 85) _ _ (by kernel_rfl) (setRow_heap _ _ _ _ _ _ (heap_alloc_new _ _)) Tryz.underlying127 rfl (by kernel_rfl)) rfl ⟨rfl, below_setRow ((Below.refl _ _).alloc (Nat.le_refl _) _) (Nat.le_refl _) _⟩
  · go_enter Tryz.func84, Tryz.ntmps84
    go_wp2_with (first | (refine wpList_build rfl 126 _ rfl (by kernel_rfl) ?_) | (refine wpList_build rfl 127 _ rfl (by kernel_rfl) ?_) | (refine wpList_store_row rfl 127 _ _ rfl w.heap.size (Ps 74) (by kernel_rfl) (by kernel_rfl) _ Z12 (heap_alloc_new _ _) (by kernel_rfl) (by kernel_rfl) (by kernel_rfl) ?_))
    refine bodyPost_ret (v := .agg (Ps 74)) (results_cell_row (p := 2) (by kernel_rfl) _ _ w.heap.size _ (Ps 74) _ _ (by kernel_rfl) (setRow_heap _ _ _ _ _ _ (heap_alloc_new _ _)) Tryz.underlying127 rfl (by kernel_rfl)) rfl ⟨rfl, below_setRow ((Below.refl _ _).alloc (Nat.le_refl _) _) (Nat.le_refl _) _⟩
  · go_enter Tryz.func84, Tryz.ntmps84
    go_wp2_with (first | (refine wpList_build rfl 126 _ rfl (by kernel_rfl) ?_) | (refine wpList_build rfl 127 _ rfl (by kernel_rfl) ?_) | (refine wpList_store_row rfl 127 _ _ rfl w.heap.size (Ps 73) (by kernel_rfl) (by kernel_rfl) _ Z12 (heap_alloc_new _ _) (by kernel_rfl) (by kernel_rfl) (by kernel_rfl) ?_))
    refine bodyPost_ret (v := .agg (Ps 73)) (results_cell_row (p := 2) (by kernel_rfl) _ _ w.heap.size _ (Ps 73) _ _ (by kernel_rfl) (setRow_heap _ _ _ _ _ _ (heap_alloc_new _ _)) Tryz.underlying127 rfl (by kernel_rfl)) rfl ⟨rfl, below_setRow ((Below.refl _ _).alloc (Nat.le_refl _) _) (Nat.le_refl _) _⟩
  · go_enter Tryz.func84, Tryz.ntmps84
    go_wp2_with (first | (refine wpList_build rfl 126 _ rfl (by kernel_rfl) ?_) | (refine wpList_build rfl 127 _ rfl (by kernel_rfl) ?_) | (refine wpList_store_row rfl 127 _ _ rfl w.heap.size (Ps 72) (by kernel_rfl) (by kernel_rfl) _ Z12 (heap_alloc_new _ _) (by kernel_rfl) (by kernel_rfl) (by kernel_rfl) ?_))
    refine bodyPost_ret (v := .agg (Ps 72)) (results_cell_row (p := 2) (by kernel_rfl) _ _ w.heap.size _ (Ps 72) _ _ (by kernel_rfl) (setRow_heap _ _ _ _ _ _ (heap_alloc_new _ _)) Tryz.underlying127 rfl (by kernel_rfl)) rfl ⟨rfl, below_setRow ((Below.refl _ _).alloc (Nat.le_refl _) _) (Nat.le_refl _) _⟩
  · go_enter Tryz.func84, Tryz.ntmps84
    go_wp2_with (first | (refine wpList_build rfl 126 _ rfl (by kernel_rfl) ?_) | (refine wpList_build rfl 127 _ rfl (by kernel_rfl) ?_) | (refine wpList_store_row rfl 127 _ _ rfl w.heap.size (Ps 66) (by kernel_rfl) (by kernel_rfl) _ Z12 (heap_alloc_new _ _) (by kernel_rfl) (by kernel_rfl) (by kernel_rfl) ?_))
    refine bodyPost_ret (v := .agg (Ps 66)) (results_cell_row (p := 2) (by kernel_rfl) _ _ w.heap.size _ (Ps 66) _ _ (by kernel_rfl) (setRow_heap _ _ _ _ _ _ (heap_alloc_new _ _)) Tryz.underlying127 rfl (by kernel_rfl)) rfl ⟨rfl, below_setRow ((Below.refl _ _).alloc (Nat.le_refl _) _) (Nat.le_refl _) _⟩
  · go_enter Tryz.func84, Tryz.ntmps84
    go_wp2_with (first | (refine wpList_build rfl 126 _ rfl (by kernel_rfl) ?_) | (refine wpList_build rfl 127 _ rfl (by kernel_rfl) ?_) | (refine wpList_store_row rfl 127 _ _ rfl w.heap.size (Ps 83) (by kernel_rfl) (by kernel_rfl) _ Z12 (heap_alloc_new _ _) (by kernel_rfl) (by kernel_rfl) (by kernel_rfl) ?_))
    refine bodyPost_ret (v := .agg (Ps 83)) (results_cell_row (p := 2) (by kernel_rfl) _ _ w.heap.size _ (Ps 83) _ _ (by kernel_rfl) (setRow_heap _ _ _ _ _ _ (heap_alloc_new _ _)) Tryz.underlying127 rfl (by kernel_rfl)) rfl ⟨rfl, below_setRow ((Below.refl _ _).alloc (Nat.le_refl _) _) (Nat.le_refl _) _⟩
  · go_enter Tryz.func84, Tryz.ntmps84
    go_wp2_with (first | (refine wpList_build rfl 126 _ rfl (by kernel_rfl) ?_) | (refine wpList_build rfl 127 _ rfl (by kernel_rfl) ?_) | (refine wpList_store_row rfl 127 _ _ rfl w.heap.size (Ps 82) (by kernel_rfl) (by kernel_rfl) _ Z12 (heap_alloc_new _ _) (by kernel_rfl) (by kernel_rfl) (by kernel_rfl) ?_))
    refine bodyPost_ret (v := .agg (Ps 82)) (results_cell_row (p := 2) (by kernel_rfl) _ _ w.heap.size _ (Ps 82) _ _ (by kernel_rfl) (setRow_heap _ _ _ _ _ _ (heap_alloc_new _ _)) Tryz.underlying127 rfl (by kernel_rfl)) rfl ⟨rfl, below_setRow ((Below.refl _ _).alloc (Nat.le_refl _) _) (Nat.le_refl _) _⟩
  · go_enter Tryz.func84, Tryz.ntmps84
    go_wp2_with (first | (refine wpList_build rfl 126 _ rfl (by kernel_rfl) ?_) | (refine wpList_build rfl 127 _ rfl (by kernel_rfl) ?_) | (refine wpList_store_row rfl 127 _ _ rfl w.heap.size (Ps 69) (by kernel_rfl) (by kernel_rfl) _ Z12 (heap_alloc_new _ _) (by kernel_rfl) (by kernel_rfl) (by kernel_rfl) ?_))
    refine bodyPost_ret (v := .agg (Ps 69)) (results_cell_row (p := 2) (by kernel_rfl) _ _ w.heap.size _ (Ps 69) _ _ (by kernel_rfl) (setRow_heap _ _ _ _ _ _ (heap_alloc_new _ _)) Tryz.underlying127 rfl (by kernel_rfl)) rfl ⟨rfl, below_setRow ((Below.refl _ _).alloc (Nat.le_refl _) _) (Nat.le_refl _) _⟩

theorem piece_at (f : Nat) (h : is8 f) (i : Nat) (hi : i < 4) (w : World) : (Instr.index 127 (.agg (Ps f)) (.int .i64 (i : Int))).run Tryz.prog w = .ok (.agg #[.int .i64 (pa f i), .int .i64 (pn f i), .int .i64 (pt f i)]) w := by
  have e : i = 0 ∨ i = 1 ∨ i = 2 ∨ i = 3 := by omega
  rcases h with rfl | rfl | rfl | rfl | rfl | rfl | rfl | rfl
  all_goals
    rcases e with rfl | rfl | rfl | rfl
    all_goals (show _ = _; kernel_rfl)

theorem stem_any (f o a b : Nat) (hf : f < 256) (ho : o < 256) (ha : a < 256) (hb : b < 256) (w : World) : Calls Tryz.prog 102 #[.agg #[.int .u8 (f : Int), .int .u8 (o : Int), .int .u8 (a : Int), .int .u8 (b : Int)]] w fun e w' => e = .returned (.int .u32 ((stemW f o a b).toNat : Int)) ∧ Below w.heap.size w w' := by
  have eo : (o : Int) = ((BitVec.ofNat 32 o).toNat : Int) := by rw [BitVec.toNat_ofNat]; omega
  have ea : (a : Int) = ((BitVec.ofNat 32 a).toNat : Int) := by rw [BitVec.toNat_ofNat]; omega
  have eb : (b : Int) = ((BitVec.ofNat 32 b).toNat : Int) := by rw [BitVec.toNat_ofNat]; omega
  have EO : Hid ((o : Int) = ((BitVec.ofNat 32 o).toNat : Int)) := eo
  have EA : Hid ((a : Int) = ((BitVec.ofNat 32 a).toNat : Int)) := ea
  have EB : Hid ((b : Int) = ((BitVec.ofNat 32 b).toNat : Int)) := eb
  clear eo ea eb
  by_cases h : ((f : Int) == 69) = true
  · have e : f = 69 := by have := of_decide_eq_true h; omega
    have H : Hid (f = 69) := e
    clear e
    go_enter Tryz.func102, Tryz.ntmps102
    go_wp2_with fail
    refine (put_at _ 12 3 _ _ _ EO.out EA.out _).mono ?_
    rintro e w1 ⟨rfl, k, rfl⟩
    go_wp2_with fail
    refine (put_at _ 20 12 _ _ _ rfl EB.out _).mono ?_
    rintro e w1 ⟨rfl, k, rfl⟩
    go_wp2_with fail
    go_ret
    exact ⟨ret_int (by unfold stemW high; rw [if_pos H.out]; rfl), below_drewN ((Below.refl _ _).alloc (Nat.le_refl _) _) _⟩
  · have e : ¬ f = 69 := by intro c; subst c; exact h rfl
    have h' : ((f : Int) == 69) = false := by simpa using h
    have H : Hid (¬ f = 69) := e
    clear e h
    go_enter Tryz.func102, Tryz.ntmps102
    go_wp2_with fail
    refine (put_at _ 12 3 _ _ _ EO.out EA.out _).mono ?_
    rintro e w1 ⟨rfl, k, rfl⟩
    go_wp2_with fail
    refine (put_at _ 25 7 _ _ _ rfl EB.out _).mono ?_
    rintro e w1 ⟨rfl, k, rfl⟩
    go_wp2_with fail
    go_ret
    exact ⟨ret_int (by unfold stemW high; rw [if_neg H.out]; rfl), below_drewN ((Below.refl _ _).alloc (Nat.le_refl _) _) _⟩

theorem told_any (f o a b : Nat) (h : is8 f) (ho : o < 256) (ha : a < 256) (hb : b < 256) (x : BitVec 32) (p q : Int) (w : World) : Calls Tryz.prog 83 #[.agg #[.int .u8 (f : Int), .int .u8 (o : Int), .int .u8 (a : Int), .int .u8 (b : Int)], .int .u32 (x.toNat : Int), .int .u8 p, .int .u8 q] w fun e w' => e = .returned (.bool (told f o a b x p q)) ∧ Below w.heap.size w w' := by
  rcases h with rfl | rfl | rfl | rfl | rfl | rfl | rfl | rfl
  all_goals
    by_cases hp : (p == (a : Int)) = true
    all_goals
      go_enter Tryz.func83, Tryz.ntmps83
      go_wp2_with (go_at_call 102; refine (stem_any _ _ _ _ (by decide) ho ha hb _).mono ?_; rintro e w1 ⟨rfl, hk⟩)
      go_ret
      refine ⟨ret_bool ?_, ?_⟩
      · first | rfl | simp [told, hp]
      · first | exact (Below.refl _ _).alloc (Nat.le_refl _) _ | exact ((Below.refl _ _).alloc (Nat.le_refl _) _).trans (hk.mono (by simp))
end Go.Proofs.YtcffpmicencfpabGreat
namespace Go.Proofs.YtcffpmicencfpabGreat
open Go.RowKit Ip

theorem field0 (a b c d : Int) (w : World) : (Instr.field 117 (.agg #[.int .u8 a, .int .u8 b, .int .u8 c, .int .u8 d]) 0).run Tryz.prog w = .ok (.int .u8 a) w := by kernel_rfl
theorem form_any (op : Int) (w : World) : Calls Tryz.prog 51 #[.int .i64 op] w fun e w' => e = .returned (.int .u8 (frm op : Int)) ∧ Below w.heap.size w w' := by
  by_cases h0 : op < 0
  · go_enter Tryz.func51, Tryz.ntmps51
    go_wp2
    go_ret
    exact ⟨ret_int (by unfold frm; rw [if_neg (by omega)]; rfl), Below.refl _ _⟩
  · by_cases h1 : 47 ≤ op
    · go_enter Tryz.func51, Tryz.ntmps51
      go_wp2
      go_ret
      exact ⟨ret_int (by unfold frm; rw [if_pos (by omega), kf_zero _ (by omega)]; rfl), Below.refl _ _⟩
    · obtain ⟨k, rfl⟩ := Int.eq_ofNat_of_zero_le (by omega : 0 ≤ op)
      have hidx := index_at k (by omega)
      have hfld := field0
      go_enter Tryz.func51, Tryz.ntmps51
      go_wp2_with (go_at_call 77; refine (kinds_any _).mono ?_; rintro e w1 ⟨rfl, hb⟩)
      go_ret
      exact ⟨ret_int (by unfold frm; rw [if_pos (by omega), Int.toNat_natCast]), hb⟩

theorem number_any (x : BitVec 32) (f : Nat) (h : is8 f) (w : World) : Calls Tryz.prog 69 #[.int .u32 (x.toNat : Int), .int .u8 (f : Int)] w fun e w' => e = .returned (.int .i64 (number x f)) ∧ Below w.heap.size w w' := by
  go_enter Tryz.func69, Tryz.ntmps69
  go_wp2_with (go_at_call 84; refine (pieces_any f h _).mono ?_; rintro e w1 ⟨rfl, hb⟩)
  go_loopw [5, 10] (fun v i wr => ∃ k : Nat, k ≤ 4 ∧ i = .int .i64 (k : Int) ∧ v = .int .u32 ((numV x f k).toNat : Int) ∧ Below w.heap.size w wr) (fun _ i _ => (4 - intOf i).toNat)
  case atStart => exact ⟨0, by omega, rfl, rfl, hb⟩
  case round =>
    obtain ⟨k, hk, rfl, rfl, hbr⟩ := hrel
    by_cases hlt : k < 4
    · have hidx := piece_at f h k hlt
      go_wp2_with fail
      go_quiet ((first | (go_at_call 70; exact Calls.quiet_of (field_any _ _ _ _)) | (go_at_call 85; exact Calls.quiet_of (put_any _ _ _ _ _))))
      go_wp2
      go_roundw
      case rel => exact ⟨k + 1, by omega, by go_num, rfl, below_drewN (hbr.alloc hbr.size _) _⟩
      case measure => simp [intOf]; omega
    · have e : k = 4 := by omega
      subst e
      go_wp2_with fail
      refine (signedBits_any f h _).mono ?_
      rintro e w2 ⟨rfl, rfl⟩
      go_wp2_with fail
      refine (sign_any _ _ _).mono ?_
      rintro e w2 ⟨rfl, kk, rfl⟩
      go_wp2
      go_ret
      exact ⟨ret_int (by
        have b1 := Wd.toInt_lo (Wd.sign (numV x f 4) (sb f))
        have b2 := Wd.toInt_hi (Wd.sign (numV x f 4) (sb f))
        unfold number; rw [Wd.toInt_, IntWalk.wrap64_in _ (by omega)]), below_drewN hbr _⟩

end Go.Proofs.YtcffpmicencfpabGreat
namespace Go.Proofs.YtcffpmicencfpabGreat
open Go.RowKit Ip

/-- What the program asks of a word, for a kind. -/
def asks (x : BitVec 32) (k : Nat) : Bool := ((ko k : Int) == ((Wd.field x 0 7).toNat : Int)) && told (kf k) (ko k) (k3 k) (k7 k) x ((Wd.field x 12 3).toNat : Int) ((Wd.field x 25 7).toNat : Int)

def fV (r : Nat) : Int := if r < 47 then (r : Int) else 0
def fB (r : Nat) : Bool := decide (r < 47)
theorem ret_ib {k : IntKind} {a b : Int} {c d : Bool} (h : a = b) (h2 : c = d) : Ending.returned (.tuple #[.int k a, .bool c]) = .returned (.tuple #[.int k b, .bool d]) := by rw [h, h2]
set_option maxRecDepth 4000 in
theorem find_any (x : BitVec 32) (r : Nat) (hr : r ≤ 47) (hno : ∀ j, j < r → asks x j = false) (hyes : r < 47 → asks x r = true) (w : World) : Calls Tryz.prog 68 #[.int .u32 (x.toNat : Int)] w fun e w' => e = .returned (.tuple #[.int .i64 (fV r), .bool (fB r)]) ∧ Below w.heap.size w w' := by
  have HN : Hid (∀ j, j < r → asks x j = false) := hno
  have HY : Hid (r < 47 → asks x r = true) := hyes
  clear hno hyes
  have b1 : ((Wd.field x 0 7).toNat : Int) < 128 := field_lt x 0 7 (by decide)
  have b2 : ((Wd.field x 12 3).toNat : Int) < 8 := field_lt x 12 3 (by decide)
  have b3 : ((Wd.field x 25 7).toNat : Int) < 128 := field_lt x 25 7 (by decide)
  go_enter Tryz.func68, Tryz.ntmps68
  go_wp2_with fail
  refine (field_any x 0 7 _).mono ?_
  rintro e w1 ⟨rfl, k, rfl⟩
  go_wp2_with fail
  refine (field_any x 12 3 _).mono ?_
  rintro e w1 ⟨rfl, k, rfl⟩
  go_wp2_with fail
  refine (field_any x 25 7 _).mono ?_
  rintro e w1 ⟨rfl, k, rfl⟩
  go_wp2_with fail
  refine (kinds_any _).mono ?_
  rintro e w1 ⟨rfl, hb⟩
  go_wp2_with fail
  go_loopw [19] (fun i wr => ∃ k : Nat, k ≤ r ∧ i = .int .i64 (k : Int) ∧ Below w.heap.size w wr) (fun i _ => (47 - intOf i).toNat)
  case atStart => exact ⟨0, by omega, rfl, (below_drewN (Below.refl _ _) _).trans hb⟩
  case round =>
    obtain ⟨k, hk, rfl, hbr⟩ := hrel
    by_cases hlt : k < 47
    · obtain ⟨F, O, A, B, hF, hO, hA, hB, hidx⟩ : ∃ F O A B : Nat, Hid (F = kf k) ∧ Hid (O = ko k) ∧ Hid (A = k3 k) ∧ Hid (B = k7 k) ∧ ∀ w : World, (Instr.index 118 (.agg Ks) (.int .i64 (k : Int))).run Tryz.prog w = .ok (.agg #[.int .u8 (F : Int), .int .u8 (O : Int), .int .u8 (A : Int), .int .u8 (B : Int)]) w := ⟨_, _, _, _, rfl, rfl, rfl, rfl, index_at k hlt⟩
      have h8 : is8 F := hF.out ▸ is8_kf k hlt
      have lO : O < 256 := hO.out ▸ ko_lt k
      have lA : A < 256 := hA.out ▸ k3_lt k
      have lB : B < 256 := hB.out ▸ k7_lt k
      have hask : Hid (asks x k = (((O : Int) == ((Wd.field x 0 7).toNat : Int)) && told F O A B x ((Wd.field x 12 3).toNat : Int) ((Wd.field x 25 7).toNat : Int))) := by
        rw [hF.out, hO.out, hA.out, hB.out]; rfl
      by_cases ho : ((O : Int) == ((Wd.field x 0 7).toNat : Int)) = true
      · by_cases ht : told F O A B x ((Wd.field x 12 3).toNat : Int) ((Wd.field x 25 7).toNat : Int) = true
        · have e : k = r := by
            have a1 : asks x k = true := by rw [hask.out, ho, ht]; rfl
            rcases Nat.lt_or_eq_of_le hk with c | c
            · rw [HN.out k c] at a1; cases a1
            · exact c
          have E : Hid (k = r) := e
          clear e
          go_wp2_with fail
          refine (told_any F O A B h8 lO lA lB x _ _ _).mono ?_
          rintro e w2 ⟨rfl, hk2⟩
          go_wp2_with fail
          go_ret2
          exact ⟨ret_ib (by rw [← E.out]; unfold fV; rw [if_pos hlt]) (by rw [← E.out]; unfold fB; rw [decide_eq_true hlt]), (hbr.alloc hbr.size _).trans (hk2.mono (by simp; have := hbr.size; omega))⟩
        · have ht' : told F O A B x ((Wd.field x 12 3).toNat : Int) ((Wd.field x 25 7).toNat : Int) = false := by simpa using ht
          have E : k + 1 ≤ r := by
            have a1 : asks x k = false := by rw [hask.out, ho, ht']; rfl
            rcases Nat.lt_or_eq_of_le hk with c | c
            · omega
            · rw [c] at a1; rw [HY.out (by omega)] at a1; cases a1
          clear ht
          go_wp2_with fail
          refine (told_any F O A B h8 lO lA lB x _ _ _).mono ?_
          rintro e w2 ⟨rfl, hk2⟩
          go_wp2_with fail
          go_roundw
          case rel => exact ⟨k + 1, by omega, by go_num, (hbr.alloc hbr.size _).trans (hk2.mono (by simp; have := hbr.size; omega))⟩
          case measure => simp [intOf]; omega
      · have ho' : ((O : Int) == ((Wd.field x 0 7).toNat : Int)) = false := by simpa using ho
        have E : k + 1 ≤ r := by
          have a1 : asks x k = false := by rw [hask.out, ho']; rfl
          rcases Nat.lt_or_eq_of_le hk with c | c
          · omega
          · rw [c] at a1; rw [HY.out (by omega)] at a1; cases a1
        clear ho
        go_wp2_with fail
        go_roundw
        case rel => exact ⟨k + 1, by omega, by go_num, hbr.alloc hbr.size _⟩
        case measure => simp [intOf]; omega
    · have e : k = 47 := by omega
      subst e
      have E : Hid (r = 47) := (by omega : r = 47)
      go_wp2_with fail
      go_ret2
      exact ⟨ret_ib (by rw [E.out]; rfl) (by rw [E.out]; rfl), hbr⟩
end Go.Proofs.YtcffpmicencfpabGreat
namespace Go.Proofs.YtcffpmicencfpabGreat
open Go.RowKit Ip

theorem bcell {W w1 : World} (hb : Below W.heap.size W w1) : (∀ b o, b < W.heap.size → w1.cell? ⟨b, o, none⟩ = W.cell? ⟨b, o, none⟩) ∧ (∀ b o, b < W.heap.size → w1.frozen? ⟨b, o, none⟩ = W.frozen? ⟨b, o, none⟩) :=
  ⟨fun b o h => hb.cell (p := ⟨b, o, none⟩) h, fun b o h => hb.frozen (p := ⟨b, o, none⟩) h⟩

theorem form_at (k : Nat) (F : Nat) (hF : F = kf k) (w : World) : Calls Tryz.prog 51 #[.int .i64 (k : Int)] w fun e w' => e = .returned (.int .u8 (F : Int)) ∧ Below w.heap.size w w' := by
  have e : frm (k : Int) = F := by unfold frm; rw [if_pos (by omega), Int.toNat_natCast, hF]
  rw [← e]; exact form_any k w
theorem has_at (f : Nat) (h : is8 f) (b1 b2 b3 : Bool) (h1 : b1 = hRd f) (h2 : b2 = hRs1 f) (h3 : b3 = hRs2 f) (w : World) : Calls Tryz.prog 52 #[.int .u8 (f : Int)] w fun e w' => e = .returned (.agg #[.bool b1, .bool b2, .bool b3]) ∧ Below w.heap.size w w' := by
  subst h1 h2 h3; exact has_any f h w
theorem find_at (x : BitVec 32) (r : Nat) (hr : r < 47) (hno : ∀ j, j < r → asks x j = false) (hyes : asks x r = true) (w : World) : Calls Tryz.prog 68 #[.int .u32 (x.toNat : Int)] w fun e w' => e = .returned (.tuple #[.int .i64 (r : Int), .bool true]) ∧ Below w.heap.size w w' := by
  have e1 : fV r = (r : Int) := by unfold fV; rw [if_pos hr]
  have e2 : fB r = true := by unfold fB; rw [decide_eq_true hr]
  rw [← e1, ← e2]; exact find_any x r (by omega) hno (fun _ => hyes) w
theorem find_none (x : BitVec 32) (hno : ∀ j, j < 47 → asks x j = false) (w : World) : Calls Tryz.prog 68 #[.int .u32 (x.toNat : Int)] w fun e w' => e = .returned (.tuple #[.int .i64 0, .bool false]) ∧ Below w.heap.size w w' :=
  find_any x 47 (by omega) hno (fun h => absurd h (by omega)) w

theorem decode_no (x : BitVec 32) (hno : ∀ j, j < 47 → asks x j = false) (w : World) : Calls Tryz.prog 46 #[.int .u32 (x.toNat : Int)] w fun e w' => e = .returned (.tuple #[.agg #[.int .i64 0, .int .i64 0, .int .i64 0, .int .i64 0, .int .i64 0], .int .i64 20]) ∧ Below w.heap.size w w' := by
  have HN : Hid (∀ j, j < 47 → asks x j = false) := hno
  clear hno
  go_enter Tryz.func46, Tryz.ntmps46
  go_wp2_with fail
  refine (find_none x HN.out _).mono ?_
  rintro e w1 ⟨rfl, hb⟩
  obtain ⟨hc, hf⟩ := bcell hb
  have hz : w.heap.size < w1.heap.size := by have := hb.size; simp at this; omega
  have hB : Below w.heap.size w w1 := ((Below.refl _ _).alloc (Nat.le_refl _) _).trans (hb.mono (by simp))
  go_wp2
  exact bodyPost_ret (v := .tuple #[.agg #[.int .i64 0, .int .i64 0, .int .i64 0, .int .i64 0, .int .i64 0], .int .i64 20]) (by simp [results, Tryz.results46, go_sem, hc]) rfl ⟨rfl, ((((hB.setCell (Nat.le_refl _) _).setCell (Nat.le_refl _) _).setCell (Nat.le_refl _) _).setCell (Nat.le_refl _) _).setCell (Nat.le_refl _) _⟩

set_option maxHeartbeats 4000000 in
theorem decode_core (x : BitVec 32) (r : Nat) (hr : r < 47) (hno : ∀ j, j < r → asks x j = false) (hyes : asks x r = true) (F : Nat) (hF : F = kf r) (b1 b2 b3 : Bool) (h1 : b1 = hRd F) (h2 : b2 = hRs1 F) (h3 : b3 = hRs2 F) (w : World) :
    Calls Tryz.prog 46 #[.int .u32 (x.toNat : Int)] w fun e w' => e = .returned (.tuple #[.agg #[.int .i64 (r : Int), .int .i64 (regIf b1 x 7), .int .i64 (regIf b2 x 15), .int .i64 (regIf b3 x 20), .int .i64 (number x F)], .int .i64 0]) ∧ Below w.heap.size w w' := by
  have HN : Hid (∀ j, j < r → asks x j = false) := hno
  have HY : Hid (asks x r = true) := hyes
  have HF : Hid (F = kf r) := hF
  have H1 : Hid (b1 = hRd F) := h1
  have H2 : Hid (b2 = hRs1 F) := h2
  have H3 : Hid (b3 = hRs2 F) := h3
  have h8 : is8 F := hF ▸ is8_kf r hr
  have H8 : Hid (is8 F) := h8
  clear hno hyes hF h1 h2 h3 h8
  cases b1 <;> cases b2 <;> cases b3
  all_goals
    go_enter Tryz.func46, Tryz.ntmps46
    go_wp2_with fail
    refine (find_at x r hr HN.out HY.out _).mono ?_
    rintro e w1 ⟨rfl, hb1⟩
    obtain ⟨hc1, hf1⟩ := bcell hb1
    have hz1 : w.heap.size < w1.heap.size := by have := hb1.size; simp at this; omega
    go_wp2_with fail
    refine (form_at r F HF.out _).mono ?_
    rintro e w2 ⟨rfl, hb2⟩
    obtain ⟨hc2, hf2⟩ := bcell hb2
    have hz2 : w.heap.size < w2.heap.size := Nat.lt_of_lt_of_le hz1 hb2.size
    go_wp2_with fail
    refine (has_at F H8.out _ _ _ H1.out H2.out H3.out _).mono ?_
    rintro e w3 ⟨rfl, hb3⟩
    obtain ⟨hc3, hf3⟩ := bcell hb3
    have hz3 : w.heap.size < w3.heap.size := Nat.lt_of_lt_of_le hz2 hb3.size
    go_wp2_with fail
    refine (number_any x F H8.out _).mono ?_
    rintro e w4 ⟨rfl, hb4⟩
    obtain ⟨hc4, hf4⟩ := bcell hb4
    have hz4 : w3.heap.size < w4.heap.size := by have := hb4.size; simp at this; omega
    have hz5 : w.heap.size < w4.heap.size := Nat.lt_trans hz3 hz4
    go_wp2_with (go_at_call 70; refine (field_any _ _ _ _).mono ?_; rintro e w5 ⟨rfl, kk, rfl⟩)
    have hB5 := (((hb1.trans (hb2.mono hb1.size)).trans (hb3.mono (Nat.le_trans hb1.size hb2.size))).alloc (Nat.le_trans hb1.size (Nat.le_trans hb2.size hb3.size)) _).trans (hb4.mono (Nat.le_trans (Nat.le_trans hb1.size (Nat.le_trans hb2.size hb3.size)) (by rw [World.size_alloc]; exact Nat.le_succ _)))
    have hB4 : Below w.heap.size w w4 := ((Below.refl _ _).alloc (Nat.le_refl _) _).trans (hB5.mono (by simp))
    have q0 : w4.cell? ⟨w.heap.size, 0, none⟩ = some (.int .i64 0) := by rw [hB5.cell (p := ⟨w.heap.size, 0, none⟩) (by simp), World.cell?_alloc_at _ _ _ _ rfl]; rfl
    have q1 : w4.cell? ⟨w.heap.size, 1, none⟩ = some (.int .i64 0) := by rw [hB5.cell (p := ⟨w.heap.size, 1, none⟩) (by simp), World.cell?_alloc_at _ _ _ _ rfl]; rfl
    have q2 : w4.cell? ⟨w.heap.size, 2, none⟩ = some (.int .i64 0) := by rw [hB5.cell (p := ⟨w.heap.size, 2, none⟩) (by simp), World.cell?_alloc_at _ _ _ _ rfl]; rfl
    have q3 : w4.cell? ⟨w.heap.size, 3, none⟩ = some (.int .i64 0) := by rw [hB5.cell (p := ⟨w.heap.size, 3, none⟩) (by simp), World.cell?_alloc_at _ _ _ _ rfl]; rfl
    have q4 : w4.cell? ⟨w.heap.size, 4, none⟩ = some (.int .i64 0) := by rw [hB5.cell (p := ⟨w.heap.size, 4, none⟩) (by simp), World.cell?_alloc_at _ _ _ _ rfl]; rfl
    refine bodyPost_ret (by simp [results, Tryz.results46, go_sem, regIf, q0, q1, q2, q3, q4, hz5]) rfl ⟨rfl, ?_⟩
  · exact (((((hB4.setCell (Nat.le_refl _) _).setCell (Nat.le_refl _) _).setCell (Nat.le_refl _) _).setCell (Nat.le_refl _) _).setCell (Nat.le_refl _) _).alloc (by simp; exact Nat.le_of_lt hz5) _
  · exact (((((((below_drewN (hB4.alloc (Nat.le_of_lt hz5) _) _).setCell (Nat.le_of_lt hz5) _).setCell (Nat.le_refl _) _).setCell (Nat.le_refl _) _).setCell (Nat.le_refl _) _).setCell (Nat.le_refl _) _).setCell (Nat.le_refl _) _)
  · exact (((((((below_drewN (hB4.alloc (Nat.le_of_lt hz5) _) _).setCell (Nat.le_of_lt hz5) _).setCell (Nat.le_refl _) _).setCell (Nat.le_refl _) _).setCell (Nat.le_refl _) _).setCell (Nat.le_refl _) _).setCell (Nat.le_refl _) _)
  · exact (((((((below_drewN ((below_drewN (hB4.alloc (Nat.le_of_lt hz5) _) _).setCell (Nat.le_of_lt hz5) _) _).setCell (Nat.le_of_lt hz5) _).setCell (Nat.le_refl _) _).setCell (Nat.le_refl _) _).setCell (Nat.le_refl _) _).setCell (Nat.le_refl _) _).setCell (Nat.le_refl _) _)
  · exact (((((((below_drewN (hB4.alloc (Nat.le_of_lt hz5) _) _).setCell (Nat.le_of_lt hz5) _).setCell (Nat.le_refl _) _).setCell (Nat.le_refl _) _).setCell (Nat.le_refl _) _).setCell (Nat.le_refl _) _).setCell (Nat.le_refl _) _)
  · exact (((((((below_drewN ((below_drewN (hB4.alloc (Nat.le_of_lt hz5) _) _).setCell (Nat.le_of_lt hz5) _) _).setCell (Nat.le_of_lt hz5) _).setCell (Nat.le_refl _) _).setCell (Nat.le_refl _) _).setCell (Nat.le_refl _) _).setCell (Nat.le_refl _) _).setCell (Nat.le_refl _) _)
  · exact (((((((below_drewN ((below_drewN (hB4.alloc (Nat.le_of_lt hz5) _) _).setCell (Nat.le_of_lt hz5) _) _).setCell (Nat.le_of_lt hz5) _).setCell (Nat.le_refl _) _).setCell (Nat.le_refl _) _).setCell (Nat.le_refl _) _).setCell (Nat.le_refl _) _).setCell (Nat.le_refl _) _)
  · exact (((((((below_drewN ((below_drewN ((below_drewN (hB4.alloc (Nat.le_of_lt hz5) _) _).setCell (Nat.le_of_lt hz5) _) _).setCell (Nat.le_of_lt hz5) _) _).setCell (Nat.le_of_lt hz5) _).setCell (Nat.le_refl _) _).setCell (Nat.le_refl _) _).setCell (Nat.le_refl _) _).setCell (Nat.le_refl _) _).setCell (Nat.le_refl _) _)

theorem decode_yes (x : BitVec 32) (r : Nat) (hr : r < 47) (hno : ∀ j, j < r → asks x j = false) (hyes : asks x r = true) (w : World) :
    Calls Tryz.prog 46 #[.int .u32 (x.toNat : Int)] w fun e w' => e = .returned (.tuple #[.agg #[.int .i64 (r : Int), .int .i64 (regIf (hRd (kf r)) x 7), .int .i64 (regIf (hRs1 (kf r)) x 15), .int .i64 (regIf (hRs2 (kf r)) x 20), .int .i64 (number x (kf r))], .int .i64 0]) ∧ Below w.heap.size w w' :=
  decode_core x r hr hno hyes _ rfl _ _ _ rfl rfl rfl w
end Go.Proofs.YtcffpmicencfpabGreat
