/-
  The walk of WordFields: it answers true of any word and any place.
-/
import Derived.Test.YtbjfkpmhcegimaaF
import Derived.Test.YtbjfkpmhcegimaaR2
import Derived.Deep.RegionHeld3
namespace Go.Proofs.Ytbjfkpmhcegimaa
open Go.RowKit

/-- A world in which the place's box still holds what it held, and all that was there is as it was. -/
def Held (w : World) (a n v : Int) (w' : World) : Prop :=
  w'.cell? ⟨w.heap.size, 0, none⟩ = some (.int .i64 a) ∧ w'.cell? ⟨w.heap.size, 1, none⟩ = some (.int .i64 n) ∧ w'.cell? ⟨w.heap.size, 2, none⟩ = some (.int .u32 v) ∧ Below w.heap.size w w' ∧ w.heap.size < w'.heap.size
theorem Held.below {w : World} {a n v : Int} {W w1 : World} (h : Held w a n v W) (hb : Below W.heap.size W w1) : Held w a n v w1 := by
  obtain ⟨h0, h1, h2, hB, hs⟩ := h
  refine ⟨?_, ?_, ?_, hB.trans (hb.mono (by omega)), Nat.lt_of_lt_of_le hs hb.size⟩
  · rw [hb.cell (p := ⟨w.heap.size, 0, none⟩) hs]; exact h0
  · rw [hb.cell (p := ⟨w.heap.size, 1, none⟩) hs]; exact h1
  · rw [hb.cell (p := ⟨w.heap.size, 2, none⟩) hs]; exact h2
theorem Held.draws {w : World} {a n v : Int} {W w1 : World} (h : Held w a n v W) (hk : ∃ k, w1 = W.drewN k) : Held w a n v w1 := by
  obtain ⟨k, rfl⟩ := hk
  obtain ⟨h0, h1, h2, hB, hs⟩ := h
  exact ⟨h0, h1, h2, below_drewN hB k, hs⟩
theorem Held.start (w : World) (a n v : Int) (t : TypeId) : Held w a n v ((w.alloc (.cells #[.int .i64 a, .int .i64 n, .int .u32 v] t)).drew) := by
  refine ⟨?_, ?_, ?_, (((Below.refl _ _).alloc (Nat.le_refl _) _)).drew, ?_⟩
  · show (w.alloc _).cell? _ = _
    rw [World.cell?_alloc_at _ _ _ _ rfl]; rfl
  · show (w.alloc _).cell? _ = _
    rw [World.cell?_alloc_at _ _ _ _ rfl]; rfl
  · show (w.alloc _).cell? _ = _
    rw [World.cell?_alloc_at _ _ _ _ rfl]; rfl
  · show w.heap.size < (w.alloc _).heap.size
    rw [World.size_alloc]; omega

set_option maxHeartbeats 4000000 in
theorem wordFields_walk (x : BitVec 32) (a n : Int) (v : BitVec 32) (w : World) : Calls Try.prog 3 #[.int .u32 (x.toNat : Int), .agg #[.int .i64 a, .int .i64 n, .int .u32 (v.toNat : Int)]] w fun e w' => e = .returned (.bool true) ∧ Below w.heap.size w w' := by
  go_enter Try.func3, Try.ntmps3
  go_wp2_with fail
  go_region_held3 (fun w' => w'.cell? ⟨w.heap.size, 0, none⟩ = some (.int .i64 a) ∧ w'.cell? ⟨w.heap.size, 1, none⟩ = some (.int .i64 n) ∧ w'.cell? ⟨w.heap.size, 2, none⟩ = some (.int .u32 (v.toNat : Int)) ∧ Below w.heap.size w w' ∧ w.heap.size < w'.heap.size) (first | assumption | exact Held.start _ _ _ _ _)
    (first
      | (go_at_call 9; refine (fixed_any _).mono ?_; rintro e w1 ⟨rfl, hk⟩; have hS : Held w a n (v.toNat : Int) w1 := Held.draws (by assumption) hk)
      | (go_at_call 10; refine (field_any _ _ _ _).mono ?_; rintro e w1 ⟨rfl, hk⟩; have hS : Held w a n (v.toNat : Int) w1 := Held.draws (by assumption) hk)
      | (go_at_call 12; refine (sign_any _ _ _).mono ?_; rintro e w1 ⟨rfl, hk⟩; have hS : Held w a n (v.toNat : Int) w1 := Held.draws (by assumption) hk)
      | (go_at_call 14; refine (put_any _ _ _ _ _).mono ?_; rintro e w1 ⟨rfl, hk⟩; have hS : Held w a n (v.toNat : Int) w1 := Held.draws (by assumption) hk)
      | (go_at_call 11; refine (rfield_any _ _ _ _).mono ?_; rintro e w1 ⟨rfl, hk⟩; have hS : Held w a n (v.toNat : Int) w1 := Held.below (by assumption) hk)
      | (go_at_call 13; refine (rsign_any _ _ _).mono ?_; rintro e w1 ⟨rfl, hk⟩; have hS : Held w a n (v.toNat : Int) w1 := Held.below (by assumption) hk)
      | (go_at_call 15; refine (rput_any _ _ _ _ _).mono ?_; rintro e w1 ⟨rfl, hk⟩; have hS : Held w a n (v.toNat : Int) w1 := Held.below (by assumption) hk))
  have hB := hS.2.2.2.1
  go_wp2
  go_ret
  exact ⟨rfl, hB⟩
end Go.Proofs.Ytbjfkpmhcegimaa
