/-
  Contracts of the document's answer for layer 1 (fields): each comes to the same plain function as the program's own.
-/
import Derived.Deep.QuietTactic
import Derived.BigQuiet
import Derived.Test.YtcffpmicencfpabGreatZa
namespace Go.Proofs.YtcffpmicencfpabGreat
open Go.RowKit

/-- A block of 32 words of 0 or 1, each as told; none of its cells is frozen. -/
structure Row (w : World) (B : Nat) (f : Nat → Bool) : Prop where
  size : B < w.heap.size
  cell : ∀ j, j < 32 → w.cell? ⟨B, j, none⟩ = some (.int .u32 ((Wd.one (f j)).toNat : Int))
  free : ∀ j, w.frozen? ⟨B, j, none⟩ = false

theorem Row.drewN {w : World} {B : Nat} {f : Nat → Bool} (h : Row w B f) (n : Nat) : Row (w.drewN n) B f := ⟨h.size, h.cell, h.free⟩
theorem Row.congr {w : World} {B : Nat} {f g : Nat → Bool} (h : Row w B f) (e : ∀ j, j < 32 → f j = g j) : Row w B g :=
  ⟨h.size, fun j hj => by rw [h.cell j hj, e j hj], h.free⟩
theorem Row.set {w : World} {B : Nat} {f : Nat → Bool} (h : Row w B f) (k : Nat) (hk : k < 32) (b : Bool) :
    Row (w.setCell ⟨B, k, none⟩ (.int .u32 ((Wd.one b).toNat : Int))) B (fun j => if j = k then b else f j) := by
  refine ⟨by rw [World.size_setCell]; exact h.size, fun j hj => ?_, fun j => by rw [World.frozen?_setCell]; exact h.free j⟩
  by_cases e : j = k
  · subst e; rw [World.cell?_setCell_same _ _ _ (h.cell j hj)]; simp
  · rw [World.cell?_setCell_other _ _ _ _ (by intro c; apply e; injection c with _ c2; exact c2.symm), h.cell j hj]; simp [e]

def bitAt (x : BitVec 32) (k : Int) : Bool := decide (0 ≤ k) && x.getLsbD k.toNat

theorem bit_nat (x : BitVec 32) (k : Nat) : bits .and .u32 ((x.toNat : Int) / 2 ^ k) 1 = ((Wd.one (x.getLsbD k)).toNat : Int) := by
  rw [Wd.shr_, show (1 : Int) = (((BitVec.ofNat 32 1)).toNat : Int) from rfl, Wd.and_]
  congr 2
  apply BitVec.eq_of_getLsbD_eq; intro i hi
  rw [BitVec.getLsbD_and, BitVec.getLsbD_ushiftRight]
  unfold Wd.one
  by_cases h : i = 0
  · subst h; cases x.getLsbD k <;> simp
  · have e : ((BitVec.ofNat 32 1)).getLsbD i = false := by simp [BitVec.getLsbD_one, h]
    rw [e]; cases x.getLsbD k <;> simp [h]

theorem bit_any (x : BitVec 32) (k : Int) (w : World) : Calls Tryz.prog 59 #[.int .u32 (x.toNat : Int), .int .i64 k] w fun e w' => e = .returned (.int .u32 ((Wd.one (bitAt x k)).toNat : Int)) ∧ w' = w := by
  by_cases h0 : k < 0
  · go_enter Tryz.func59, Tryz.ntmps59
    go_wp2
    go_ret
    exact ⟨ret_int (by rw [show bitAt x k = false by unfold bitAt; rw [decide_eq_false (by omega)]; rfl]; rfl), rfl⟩
  · by_cases h1 : 31 < k
    · go_enter Tryz.func59, Tryz.ntmps59
      go_wp2
      go_ret
      exact ⟨ret_int (by rw [show bitAt x k = false by unfold bitAt; rw [BitVec.getLsbD_of_ge _ _ (by omega), Bool.and_false]]; rfl), rfl⟩
    · have e : bitAt x k = x.getLsbD k.toNat := by unfold bitAt; rw [decide_eq_true (by omega)]; rfl
      have H : Hid (bitAt x k = x.getLsbD k.toNat) := e
      clear e
      go_enter Tryz.func59, Tryz.ntmps59
      go_wp2
      go_ret
      exact ⟨ret_int (by rw [H.out]; exact bit_nat x _), rfl⟩

theorem may_any (a n : Int) (w : World) : Calls Tryz.prog 78 #[.int .i64 a, .int .i64 n] w fun e w' => e = .returned (.bool (Wd.within a n)) ∧ w' = w := by
  go_enter Tryz.func78, Tryz.ntmps78
  go_wp2
  all_goals go_ret
  all_goals refine ⟨ret_bool ?_, rfl⟩
  all_goals unfold Wd.within
  all_goals first | (rw [decide_eq_decide]; omega) | (symm; rw [decide_eq_false_iff_not]; omega)

def top (x : BitVec 32) (k : Nat) : BitVec 32 := x >>> k
theorem of_step (x : BitVec 32) (k : Nat) (_h : k < 32) : (((x >>> (k + 1)).toNat : Int) * 2 + ((Wd.one (x.getLsbD k)).toNat : Int)) % 4294967296 = ((x >>> k).toNat : Int) := by
  rw [BitVec.toNat_ushiftRight, BitVec.toNat_ushiftRight, Nat.shiftRight_eq_div_pow, Nat.shiftRight_eq_div_pow]
  have e : ((Wd.one (x.getLsbD k)).toNat : Int) = ((x.toNat / 2 ^ k % 2 : Nat) : Int) := by
    have : x.getLsbD k = decide (x.toNat / 2 ^ k % 2 = 1) := by
      rw [BitVec.getLsbD, Nat.testBit_eq_decide_div_mod_eq]
    rw [this]; unfold Wd.one
    rcases Nat.mod_two_eq_zero_or_one (x.toNat / 2 ^ k) with h | h <;> simp [h]
  have d : x.toNat / 2 ^ (k + 1) = x.toNat / 2 ^ k / 2 := by rw [Nat.pow_succ, Nat.div_div_eq_div_mul]
  have l : x.toNat / 2 ^ k ≤ x.toNat := Nat.div_le_self _ _
  have := x.isLt
  rw [e, d]
  generalize x.toNat / 2 ^ k = y at *
  omega

theorem top_step (x : BitVec 32) (k : Nat) (h : k < 32) : (((top x (k + 1)).toNat : Int) * 2 % 4294967296 + ((Wd.one (x.getLsbD k)).toNat : Int)) % 4294967296 = ((top x k).toNat : Int) := by
  have e := of_step x k h
  unfold top; omega
theorem top_zero (x : BitVec 32) : top x 0 = x := by unfold top; simp
theorem shr_all (x : BitVec 32) : x >>> 32 = (BitVec.ofNat 32 0) := by
  apply BitVec.eq_of_toNat_eq; rw [BitVec.toNat_ushiftRight, Nat.shiftRight_eq_div_pow]; have := x.isLt; simp; omega

theorem of_any (x : BitVec 32) (B : Nat) (w : World) (h : Row w B (fun j => x.getLsbD j)) : Calls Tryz.prog 79 #[.slice (some ⟨B, 0, none⟩) 32 32] w fun e w' => e = .returned (.int .u32 (x.toNat : Int)) ∧ w' = w := by
  go_enter Tryz.func79, Tryz.ntmps79
  go_wp2
  go_loop [3, 4] (fun t i => ∃ k : Nat, k ≤ 32 ∧ i = .int .i64 ((k : Int) - 1) ∧ t = .int .u32 ((top x k).toNat : Int)) (fun _ i => (intOf i + 1).toNat)
  case atStart => exact ⟨32, Nat.le_refl _, rfl, by unfold top; rw [shr_all]; rfl⟩
  case round =>
    obtain ⟨k, hk, rfl, rfl⟩ := hrel
    by_cases hlt : 0 < k
    · obtain ⟨m, rfl⟩ : ∃ m, k = m + 1 := ⟨k - 1, by omega⟩
      have hc := h.cell m (by omega)
      go_wp2
      go_round
      case rel => exact ⟨m, by omega, rfl, by rw [top_step x m (by omega)]⟩
      case measure => simp [intOf]
    · have e : k = 0 := by omega
      subst e
      go_wp2
      go_ret
      exact ⟨ret_int (by rw [top_zero]), rfl⟩

/-- What 'make' of 32 words leaves. -/
theorem made (w : World) : (Instr.makeSlice 24 (.int .i64 32) (.int .i64 32)).run Tryz.prog w = .ok (.slice (some ⟨w.heap.size, 0, none⟩) 32 32) (w.alloc (.cells (Array.replicate 32 (.int .u32 0)) 22)) := by kernel_rfl

theorem Row.made (w : World) : Row (w.alloc (.cells (Array.replicate 32 (.int .u32 0)) 22)) w.heap.size (fun _ => false) := by
  refine ⟨by rw [World.size_alloc]; omega, fun j hj => ?_, fun j => World.frozen?_alloc_at _ _ _ _ rfl⟩
  rw [World.cell?_alloc_at _ _ _ _ rfl]
  simp [hj, Wd.one]

theorem bitAt_add (x : BitVec 32) (a : Int) (k : Nat) (h : 0 ≤ a) : bitAt x (a + (k : Int)) = x.getLsbD (a.toNat + k) := by
  unfold bitAt; rw [decide_eq_true (by omega), show (a + (k : Int)).toNat = a.toNat + k by omega]; rfl

theorem rfield_any (x : BitVec 32) (a n : Int) (w : World) : Calls Tryz.prog 57 #[.int .u32 (x.toNat : Int), .int .i64 a, .int .i64 n] w fun e w' => e = .returned (.int .u32 ((Wd.field x a n).toNat : Int)) ∧ Below w.heap.size w w' := by
  have hmk := made
  go_enter Tryz.func57, Tryz.ntmps57
  go_wp2_with fail
  clear hmk
  go_loopw [8] (fun i wr => ∃ k : Nat, i = .int .i64 (k : Int) ∧ (k = 0 ∨ (Wd.within a n = true ∧ (k : Int) ≤ n)) ∧ Row wr w.heap.size (fun j => decide (j < k) && x.getLsbD (a.toNat + j)) ∧ Below w.heap.size w wr) (fun i _ => (n - intOf i).toNat)
  case atStart => exact ⟨0, rfl, .inl rfl, (Row.made w).congr (by simp), (Below.refl _ _).alloc (Nat.le_refl _) _⟩
  case round =>
    obtain ⟨k, rfl, hk, hrow, hbel⟩ := hrel
    by_cases hlt : (k : Int) < n
    · by_cases hw : Wd.within a n = true
      · have hb := Wd.of_within hw
        have hcell := hrow.cell k (by omega)
        have hfree := hrow.free k
        obtain ⟨b1, b2, b3, b4, b5⟩ := hb
        have HR : Hid (Row wr w.heap.size (fun j => decide (j < k) && x.getLsbD (a.toNat + j))) := hrow
        clear hrow hk
        go_wp2_with (first | (go_at_call 78; refine (may_any _ _ _).mono ?_; rintro e w' ⟨rfl, rfl⟩) | (go_at_call 59; refine (bit_any _ _ _).mono ?_; rintro e w' ⟨rfl, rfl⟩))
        go_roundw
        case rel =>
          refine ⟨k + 1, by go_num, .inr ⟨hw, by omega⟩, (HR.out.set k (by omega) _).congr ?_, hbel.setCell (Nat.le_refl _) _⟩
          intro j hj
          by_cases e : j = k
          · subst e; rw [bitAt_add x a j b1]; simp
          · have e2 : (j < k + 1) = (j < k) := propext (by omega)
            simp [e, e2]
        case measure => simp [intOf]; omega
      · have hw' : Wd.within a n = false := by simpa using hw
        have hk0 : k = 0 := by
          rcases hk with h | ⟨h, _⟩
          · exact h
          · exact absurd h hw
        have hrow' : Row wr w.heap.size (fun j => (Wd.field x a n).getLsbD j) := hrow.congr (by
          intro j hj; unfold Wd.field; rw [if_neg hw]; simp [hk0])
        have HR := hrow'
        clear hrow hrow' hk hw hk0
        go_wp2_with (first | (go_at_call 78; refine (may_any _ _ _).mono ?_; rintro e w' ⟨rfl, rfl⟩) | (go_at_call 79; refine (of_any (Wd.field x a n) _ _ HR).mono ?_; rintro e w' ⟨rfl, rfl⟩))
        go_ret
        exact ⟨rfl, hbel⟩
    · have hrow' : Row wr w.heap.size (fun j => (Wd.field x a n).getLsbD j) := hrow.congr (by
        intro j hj
        by_cases hw : Wd.within a n = true
        · have hb := Wd.of_within hw
          rw [Wd.field_get _ _ _ hw j hj]
          rcases hk with h | ⟨_, h⟩
          · omega
          · rw [show n.toNat = k by omega]
        · unfold Wd.field; rw [if_neg hw]
          rcases hk with h | ⟨h, _⟩
          · simp [h]
          · exact absurd h hw)
      have HR := hrow'
      clear hrow hrow' hk
      go_wp2_with (first | (go_at_call 78; refine (may_any _ _ _).mono ?_; rintro e w' ⟨rfl, rfl⟩) | (go_at_call 79; refine (of_any (Wd.field x a n) _ _ HR).mono ?_; rintro e w' ⟨rfl, rfl⟩))
      go_ret
      exact ⟨rfl, hbel⟩
end Go.Proofs.YtcffpmicencfpabGreat
