/-
  The table of kinds: its call answers the table, in new memory; each of its rows, by its number.
  Contracts of package inst's small functions: what each call answers; what was in memory stays.
  Contracts of package inst's small functions, more: the pieces of a form's number; a kind's word; whether a word is of a kind.
  Contracts of package inst's Form and Plain, and of a form's number out of a word and into one.
  Contract of package inst's find: the kind of a word's instruction.
  Contract of package inst's Decode: the instruction of a word, by its kind.
-/

import Derived.Test.YtdjladaefoedfaaDoorZa
import Derived.Test.YtdjladaefoedfaaDoorZb
namespace Go.Proofs.YtdjladaefoedfaaDoor
open Go.RowKit Ip
def Zs : Array Value := Array.replicate 188 (.int .u8 0)
def Ks : Array Value := #[.int .u8 85, .int .u8 55, .int .u8 0, .int .u8 0, .int .u8 85, .int .u8 23, .int .u8 0, .int .u8 0, .int .u8 74, .int .u8 111, .int .u8 0, .int .u8 0, .int .u8 73, .int .u8 103, .int .u8 0, .int .u8 0, .int .u8 66, .int .u8 99, .int .u8 0, .int .u8 0, .int .u8 66, .int .u8 99, .int .u8 1, .int .u8 0, .int .u8 66, .int .u8 99, .int .u8 4, .int .u8 0, .int .u8 66, .int .u8 99, .int .u8 5, .int .u8 0, .int .u8 66, .int .u8 99, .int .u8 6, .int .u8 0, .int .u8 66, .int .u8 99, .int .u8 7, .int .u8 0, .int .u8 73, .int .u8 3, .int .u8 0, .int .u8 0, .int .u8 73, .int .u8 3, .int .u8 1, .int .u8 0, .int .u8 73, .int .u8 3, .int .u8 2, .int .u8 0, .int .u8 73, .int .u8 3, .int .u8 4, .int .u8 0, .int .u8 73, .int .u8 3, .int .u8 5, .int .u8 0, .int .u8 83, .int .u8 35, .int .u8 0, .int .u8 0, .int .u8 83, .int .u8 35, .int .u8 1, .int .u8 0, .int .u8 83, .int .u8 35, .int .u8 2, .int .u8 0, .int .u8 73, .int .u8 19, .int .u8 0, .int .u8 0, .int .u8 73, .int .u8 19, .int .u8 2, .int .u8 0, .int .u8 73, .int .u8 19, .int .u8 3, .int .u8 0, .int .u8 73, .int .u8 19, .int .u8 4, .int .u8 0, .int .u8 73, .int .u8 19, .int .u8 6, .int .u8 0, .int .u8 73, .int .u8 19, .int .u8 7, .int .u8 0, .int .u8 72, .int .u8 19, .int .u8 1, .int .u8 0, .int .u8 72, .int .u8 19, .int .u8 5, .int .u8 0, .int .u8 72, .int .u8 19, .int .u8 5, .int .u8 32, .int .u8 82, .int .u8 51, .int .u8 0, .int .u8 0, .int .u8 82, .int .u8 51, .int .u8 0, .int .u8 32, .int .u8 82, .int .u8 51, .int .u8 1, .int .u8 0, .int .u8 82, .int .u8 51, .int .u8 2, .int .u8 0, .int .u8 82, .int .u8 51, .int .u8 3, .int .u8 0, .int .u8 82, .int .u8 51, .int .u8 4, .int .u8 0, .int .u8 82, .int .u8 51, .int .u8 5, .int .u8 0, .int .u8 82, .int .u8 51, .int .u8 5, .int .u8 32, .int .u8 82, .int .u8 51, .int .u8 6, .int .u8 0, .int .u8 82, .int .u8 51, .int .u8 7, .int .u8 0, .int .u8 82, .int .u8 51, .int .u8 0, .int .u8 1, .int .u8 82, .int .u8 51, .int .u8 1, .int .u8 1, .int .u8 82, .int .u8 51, .int .u8 2, .int .u8 1, .int .u8 82, .int .u8 51, .int .u8 3, .int .u8 1, .int .u8 82, .int .u8 51, .int .u8 4, .int .u8 1, .int .u8 82, .int .u8 51, .int .u8 5, .int .u8 1, .int .u8 82, .int .u8 51, .int .u8 6, .int .u8 1, .int .u8 82, .int .u8 51, .int .u8 7, .int .u8 1, .int .u8 69, .int .u8 115, .int .u8 0, .int .u8 0, .int .u8 69, .int .u8 115, .int .u8 0, .int .u8 1]
theorem zero48 (w : World) : (zeroValue 82).run Tryd.prog w = .ok (.agg Zs) w := by kernel_rfl
theorem below_setRow {B : Nat} {a w : World} (h : Below B a w) {g : Nat} (hg : B ≤ g) (cs : Array Value) : Below B a (w.setRow g cs) :=
  h.trans ⟨rfl, rfl, rfl, by simp, fun k hk => setRow_other w g k cs (by omega)⟩
set_option maxRecDepth 100000 in
set_option maxHeartbeats 4000000 in
theorem kinds_any (w : World) : Calls Tryd.prog 54 #[] w fun e w' => e = .returned (.agg Ks) ∧ Below w.heap.size w w' := by
  have hz := zero48
  go_enter Tryd.func54, Tryd.ntmps54
  go_wp2_with (first | (refine wpList_build rfl 81 _ rfl (by kernel_rfl) ?_) | (refine wpList_build rfl 82 _ rfl (by kernel_rfl) ?_) | (refine wpList_store_row rfl 82 _ _ rfl w.heap.size Ks (by kernel_rfl) (by kernel_rfl) _ Zs (heap_alloc_new _ _) (by kernel_rfl) (by kernel_rfl) (by kernel_rfl) ?_))
  refine bodyPost_ret (v := .agg Ks) (results_cell_row (p := 0) (by kernel_rfl) _ _ w.heap.size _ Ks _ _ (by kernel_rfl) (setRow_heap _ _ _ _ _ _ (heap_alloc_new _ _)) Tryd.underlying82 rfl (by kernel_rfl)) rfl ⟨rfl, below_setRow ((Below.refl _ _).alloc (Nat.le_refl _) _) (Nat.le_refl _) _⟩

theorem index_at (k : Nat) (h : k < 47) (w : World) : (Instr.index 82 (.agg Ks) (.int .i64 (k : Int))).run Tryd.prog w = .ok (.agg #[.int .u8 (kf k : Int), .int .u8 (ko k : Int), .int .u8 (k3 k : Int), .int .u8 (k7 k : Int)]) w := by
  revert k
  refine cases47 ?_ ?_ ?_ ?_ ?_ ?_ ?_ ?_ ?_ ?_ ?_ ?_ ?_ ?_ ?_ ?_ ?_ ?_ ?_ ?_ ?_ ?_ ?_ ?_ ?_ ?_ ?_ ?_ ?_ ?_ ?_ ?_ ?_ ?_ ?_ ?_ ?_ ?_ ?_ ?_ ?_ ?_ ?_ ?_ ?_ ?_ ?_
  all_goals kernel_rfl
end Go.Proofs.YtdjladaefoedfaaDoor
namespace Go.Proofs.YtdjladaefoedfaaDoor
open Go.RowKit Ip

theorem fits_any (r : Int) (b : Bool) (w : World) : Calls Tryd.prog 38 #[.int .i64 r, .bool b] w fun e w' => e = .returned (.bool (fit r b)) ∧ w' = w := by
  cases b
  · go_enter Tryd.func38, Tryd.ntmps38
    go_wp2
    go_ret
    exact ⟨ret_bool (by unfold fit; rw [if_neg (by decide)]; rfl), rfl⟩
  · go_enter Tryd.func38, Tryd.ntmps38
    go_wp2
    all_goals go_ret
    all_goals refine ⟨ret_bool ?_, rfl⟩
    all_goals unfold fit
    all_goals rw [if_pos rfl]
    all_goals first | (rw [decide_eq_decide]; omega) | (symm; rw [decide_eq_false_iff_not]; omega)

theorem has_any (f : Nat) (h : is8 f) (w : World) : Calls Tryd.prog 37 #[.int .u8 (f : Int)] w fun e w' => e = .returned (.agg #[.bool (hRd f), .bool (hRs1 f), .bool (hRs2 f)]) ∧ Below w.heap.size w w' := by
  rcases h with rfl | rfl | rfl | rfl | rfl | rfl | rfl | rfl
  all_goals
    go_enter Tryd.func37, Tryd.ntmps37
    go_wp2
    exact bodyPost_ret (by simp [results, Tryd.results37, go_sem]; decide) rfl ⟨rfl, (Below.refl _ _).alloc (Nat.le_refl _) _⟩

theorem span_any (f : Nat) (h : is8 f) (w : World) : Calls Tryd.prog 39 #[.int .u8 (f : Int)] w fun e w' => e = .returned (.agg #[.int .i64 (lo f), .int .i64 (hi f), .int .i64 (st f)]) ∧ Below w.heap.size w w' := by
  rcases h with rfl | rfl | rfl | rfl | rfl | rfl | rfl | rfl
  all_goals
    go_enter Tryd.func39, Tryd.ntmps39
    go_wp2
    exact bodyPost_ret (by simp [results, Tryd.results39, go_sem]; decide) rfl ⟨rfl, (Below.refl _ _).alloc (Nat.le_refl _) _⟩

theorem holds_any (a b c n : Int) (hc : 1 ≤ c) (w : World) : Calls Tryd.prog 40 #[.agg #[.int .i64 a, .int .i64 b, .int .i64 c], .int .i64 n] w fun e w' => e = .returned (.bool (inSpan a b c n)) ∧ Below w.heap.size w w' := by
  by_cases h1 : a ≤ n
  · by_cases h2 : n ≤ b
    · go_enter Tryd.func40, Tryd.ntmps40
      go_wp2
      go_ret
      exact ⟨ret_bool (by unfold inSpan; rw [Bool.eq_iff_iff, beq_iff_eq, decide_eq_true_eq, ← Int.dvd_iff_tmod_eq_zero, Int.dvd_iff_emod_eq_zero]; exact ⟨fun h => ⟨h1, h2, h⟩, fun h => h.2.2⟩), (Below.refl _ _).alloc (Nat.le_refl _) _⟩
    · go_enter Tryd.func40, Tryd.ntmps40
      go_wp2
      go_ret
      exact ⟨ret_bool (by unfold inSpan; symm; rw [decide_eq_false_iff_not]; omega), (Below.refl _ _).alloc (Nat.le_refl _) _⟩
  · go_enter Tryd.func40, Tryd.ntmps40
    go_wp2
    go_ret
    exact ⟨ret_bool (by unfold inSpan; symm; rw [decide_eq_false_iff_not]; omega), (Below.refl _ _).alloc (Nat.le_refl _) _⟩

end Go.Proofs.YtdjladaefoedfaaDoor
namespace Go.Proofs.YtdjladaefoedfaaDoor
open Go.RowKit Ip

def Ps (f : Nat) : Array Value := ((pcs f).map fun x => Value.int .i64 x).toArray
def Z12 : Array Value := Array.replicate 12 (.int .i64 0)
end Go.Proofs.YtdjladaefoedfaaDoor
namespace Go.Proofs.YtdjladaefoedfaaDoor
open Go.RowKit Ip

theorem field0 (a b c d : Int) (w : World) : (Instr.field 81 (.agg #[.int .u8 a, .int .u8 b, .int .u8 c, .int .u8 d]) 0).run Tryd.prog w = .ok (.int .u8 a) w := by kernel_rfl
theorem form_any (op : Int) (w : World) : Calls Tryd.prog 36 #[.int .i64 op] w fun e w' => e = .returned (.int .u8 (frm op : Int)) ∧ Below w.heap.size w w' := by
  by_cases h0 : op < 0
  · go_enter Tryd.func36, Tryd.ntmps36
    go_wp2
    go_ret
    exact ⟨ret_int (by unfold frm; rw [if_neg (by omega)]; rfl), Below.refl _ _⟩
  · by_cases h1 : 47 ≤ op
    · go_enter Tryd.func36, Tryd.ntmps36
      go_wp2
      go_ret
      exact ⟨ret_int (by unfold frm; rw [if_pos (by omega), kf_zero _ (by omega)]; rfl), Below.refl _ _⟩
    · obtain ⟨k, rfl⟩ := Int.eq_ofNat_of_zero_le (by omega : 0 ≤ op)
      have hidx := index_at k (by omega)
      have hfld := field0
      go_enter Tryd.func36, Tryd.ntmps36
      go_wp2_with (go_at_call 54; refine (kinds_any _).mono ?_; rintro e w1 ⟨rfl, hb⟩)
      go_ret
      exact ⟨ret_int (by unfold frm; rw [if_pos (by omega), Int.toNat_natCast]), hb⟩

end Go.Proofs.YtdjladaefoedfaaDoor
namespace Go.Proofs.YtdjladaefoedfaaDoor
open Go.RowKit Ip

/-- What the program asks of a word, for a kind. -/
def asks (x : BitVec 32) (k : Nat) : Bool := ((ko k : Int) == ((Wd.field x 0 7).toNat : Int)) && told (kf k) (ko k) (k3 k) (k7 k) x ((Wd.field x 12 3).toNat : Int) ((Wd.field x 25 7).toNat : Int)

def fV (r : Nat) : Int := if r < 47 then (r : Int) else 0
def fB (r : Nat) : Bool := decide (r < 47)
theorem ret_ib {k : IntKind} {a b : Int} {c d : Bool} (h : a = b) (h2 : c = d) : Ending.returned (.tuple #[.int k a, .bool c]) = .returned (.tuple #[.int k b, .bool d]) := by rw [h, h2]
end Go.Proofs.YtdjladaefoedfaaDoor
namespace Go.Proofs.YtdjladaefoedfaaDoor
open Go.RowKit Ip

theorem bcell {W w1 : World} (hb : Below W.heap.size W w1) : (∀ b o, b < W.heap.size → w1.cell? ⟨b, o, none⟩ = W.cell? ⟨b, o, none⟩) ∧ (∀ b o, b < W.heap.size → w1.frozen? ⟨b, o, none⟩ = W.frozen? ⟨b, o, none⟩) :=
  ⟨fun b o h => hb.cell (p := ⟨b, o, none⟩) h, fun b o h => hb.frozen (p := ⟨b, o, none⟩) h⟩

theorem form_at (k : Nat) (F : Nat) (hF : F = kf k) (w : World) : Calls Tryd.prog 36 #[.int .i64 (k : Int)] w fun e w' => e = .returned (.int .u8 (F : Int)) ∧ Below w.heap.size w w' := by
  have e : frm (k : Int) = F := by unfold frm; rw [if_pos (by omega), Int.toNat_natCast, hF]
  rw [← e]; exact form_any k w
theorem has_at (f : Nat) (h : is8 f) (b1 b2 b3 : Bool) (h1 : b1 = hRd f) (h2 : b2 = hRs1 f) (h3 : b3 = hRs2 f) (w : World) : Calls Tryd.prog 37 #[.int .u8 (f : Int)] w fun e w' => e = .returned (.agg #[.bool b1, .bool b2, .bool b3]) ∧ Below w.heap.size w w' := by
  subst h1 h2 h3; exact has_any f h w
end Go.Proofs.YtdjladaefoedfaaDoor
