/-
  Contract of package elf's Check: which programs may be.
-/
import Derived.Test.YtkfomhllaogplaaED
namespace Go.Proofs.Ytkfomhllaogplaa
open Go.RowKit El Go.Lib
open Classical
set_option linter.unusedSimpArgs false

theorem chk_told (l : List Seg) : chk l = 0 ∨ Told (chk l) := by
  rcases chk_among l with h | h | h | h <;> rw [h] <;> unfold Told <;> simp
theorem checkF_any (b : Nat) (E F : Int) (v : Value) (l : List Seg) (hfit : ∀ x ∈ l, Fits x) (w : World) (hbx : w.heap[b]? = some (.cells #[.int .u32 E, .int .u32 F, v] 25 (0, 0))) (hS : SlS w v l) :
    Calls Try.prog 44 #[.pointer (some ⟨b, 0, none⟩)] w fun e w' => e = ends (chk l) (.tuple #[]) ∧ Below w.heap.size w w' := by
  obtain ⟨⟨a0, a1, a2⟩, _⟩ := three hbx
  have HC := hideE (look_any E F v l hfit w hS)
  obtain ⟨k, hk⟩ : ∃ k, k = chk l := ⟨_, rfl⟩
  rw [← hk] at HC ⊢
  clear hk hfit hS hbx
  go_enter Try.func44, Try.ntmps44
  go_wp2_with fail
  refine HC.out.mono ?_
  rintro e w1 ⟨rfl, hb1⟩
  by_cases h0 : k = 0
  · subst h0
    rw [ends_zero]
    go_wp2_with fail
    go_end0
    exact ⟨rfl, hb1⟩
  · rw [ends_odd h0]
    go_wp2_with fail
    exact ⟨rfl, (ends_odd h0 _).symm, hb1⟩
theorem check_any (x : Prg) (v : Value) (hfit : ∀ g ∈ x.segs, Fits g) (w : World) (hS : SlS w v x.segs) :
    Calls Try.prog 28 #[prgV x v] w fun e w' => e = .returned (.int .i64 (chk x.segs)) ∧ Below w.heap.size w w' := by
  have hmf : ∀ (fn : Fn) (first cap : Array Value) (w : World), (Instr.makeFunc fn first cap).run Try.prog w = .ok (.func fn first cap) w := fun _ _ _ _ => rfl
  have hA0 : Below w.heap.size w (w.alloc (.cells #[.int .u32 (x.entry.toNat : Int), .int .u32 (x.flags.toNat : Int), v] 25)) := (Below.refl _ w).alloc (Nat.le_refl _) _
  have HA := hideE (attempt_check ⟨w.heap.size, 0, none⟩ (chk x.segs) (chk_told _) (w.alloc (.cells #[.int .u32 (x.entry.toNat : Int), .int .u32 (x.flags.toNat : Int), v] 25)) (fun _ => True) (by
    refine (checkF_any w.heap.size _ _ v x.segs hfit _ (keptN ((Below.refl _ _).alloc (Nat.le_refl _) _) (heap_alloc_new w _)) ((hS.below hA0).below ((Below.refl _ _).alloc (Nat.le_refl _) _))).mono ?_
    rintro e w' ⟨he, hb⟩
    exact ⟨he, hb.mono (by simp), trivial⟩))
  unfold prgV
  generalize chk x.segs = k at HA
  clear hS hfit
  go_enter Try.func28, Try.ntmps28
  go_wp2_with fail
  refine HA.out.mono ?_
  rintro e w1 ⟨rfl, w2, _, hl⟩
  go_wp2_with fail
  go_ret
  exact ⟨rfl, hA0.trans (hl.below.mono (by simp))⟩
end Go.Proofs.Ytkfomhllaogplaa
