/-
  The walk of InstDecodes: it answers true of any word.
-/
import Derived.Test.YtoiheamdnlaahaaRD
namespace Go.Proofs.Ytoiheamdnlaahaa
open Go.RowKit Ip

theorem rdecode_kind (x : BitVec 32) (k : Nat) (hk : k < 47) (h : asked x k = true) (w : World) :
    Calls Try.prog 10 #[.int .u32 (x.toNat : Int)] w fun e w' => e = .returned (.tuple #[.agg #[.int .i64 (k : Int), .int .i64 (regIf (hRd (kf k)) x 7), .int .i64 (regIf (hRs1 (kf k)) x 15), .int .i64 (regIf (hRs2 (kf k)) x 20), .int .i64 (number x (kf k))], .int .i64 0]) ∧ Below w.heap.size w w' := by
  refine rdecode_core x k (by omega) (fun j hj => ?_) (fun _ => h) _ _ _ _ _ _ (fun _ => ⟨rfl, rfl, rfl, rfl, rfl, rfl⟩) (fun c => by omega) w
  cases e : asked x j with
  | false => rfl
  | true => exact absurd (asked_one x j k (by omega) hk e h) (by omega)
theorem rdecode_none (x : BitVec 32) (h : ∀ k, k < 47 → asked x k = false) (w : World) : Calls Try.prog 10 #[.int .u32 (x.toNat : Int)] w fun e w' => e = .returned (.tuple #[.agg #[.int .i64 0, .int .i64 0, .int .i64 0, .int .i64 0, .int .i64 0], .int .i64 20]) ∧ Below w.heap.size w w' :=
  rdecode_core x 47 (Nat.le_refl _) h (fun c => absurd c (by omega)) _ _ _ _ _ _ (fun c => absurd c (by omega)) (fun _ => ⟨rfl, rfl, rfl, rfl, rfl, rfl⟩) w
/-- What both Decodes answer: the same. -/
theorem dec_both (x : BitVec 32) : ∃ op a b c n E : Int,
    (∀ w : World, Calls Try.prog 9 #[.int .u32 (x.toNat : Int)] w fun e w' => e = .returned (.tuple #[.agg #[.int .i64 op, .int .i64 a, .int .i64 b, .int .i64 c, .int .i64 n], .int .i64 E]) ∧ Below w.heap.size w w') ∧
    (∀ w : World, Calls Try.prog 10 #[.int .u32 (x.toNat : Int)] w fun e w' => e = .returned (.tuple #[.agg #[.int .i64 op, .int .i64 a, .int .i64 b, .int .i64 c, .int .i64 n], .int .i64 E]) ∧ Below w.heap.size w w') := by
  rcases kind_or x with ⟨k, hk, hx⟩ | hx
  · exact ⟨_, _, _, _, _, _, fun w => decode_kind x k hk hx w, fun w => rdecode_kind x k hk hx w⟩
  · exact ⟨_, _, _, _, _, _, fun w => decode_none x hx w, fun w => rdecode_none x hx w⟩

set_option maxHeartbeats 1000000 in
theorem instDecodes_walk (x : BitVec 32) (w : World) : Calls Try.prog 3 #[.int .u32 (x.toNat : Int)] w fun e w' => e = .returned (.bool true) ∧ Below w.heap.size w w' := by
  have hq := eqlX
  have hself := sameX_self
  obtain ⟨op, a, b, c, n, E, hD, hR⟩ := dec_both x
  have HD : Hid (∀ w : World, Calls Try.prog 9 #[.int .u32 (x.toNat : Int)] w fun e w' => e = .returned (.tuple #[.agg #[.int .i64 op, .int .i64 a, .int .i64 b, .int .i64 c, .int .i64 n], .int .i64 E]) ∧ Below w.heap.size w w') := hD
  have HR : Hid (∀ w : World, Calls Try.prog 10 #[.int .u32 (x.toNat : Int)] w fun e w' => e = .returned (.tuple #[.agg #[.int .i64 op, .int .i64 a, .int .i64 b, .int .i64 c, .int .i64 n], .int .i64 E]) ∧ Below w.heap.size w w') := hR
  clear hD hR
  go_enter Try.func3, Try.ntmps3
  go_wp2_with fail
  refine (HD.out _).mono ?_
  rintro e w1 ⟨rfl, b1⟩
  go_wp2_with fail
  refine (HR.out _).mono ?_
  rintro e w2 ⟨rfl, b2⟩
  obtain ⟨c2, f2⟩ := bcell b2
  have z2 : w1.heap.size < w2.heap.size := by have := b2.size; simp at this; omega
  go_wp2_with fail
  refine (fixed_any _).mono ?_
  rintro e w3 ⟨rfl, b3⟩
  obtain ⟨c3, f3⟩ := bcell b3
  have z3 : w2.heap.size < w3.heap.size := by have := b3.size; simp at this; omega
  have z4 : w1.heap.size < w3.heap.size := Nat.lt_trans z2 z3
  go_wp2_with fail
  go_ret
  have g2 := (b1.alloc b1.size _).trans (b2.mono (by simp; have := b1.size; omega))
  exact ⟨rfl, (g2.alloc g2.size _).trans (b3.mono (by simp; have := g2.size; omega))⟩
end Go.Proofs.Ytoiheamdnlaahaa
