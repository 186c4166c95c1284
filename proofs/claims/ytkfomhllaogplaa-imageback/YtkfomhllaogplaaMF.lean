/-
  The statements' own test whether two lists of cells are the same: of two rows that hold the same it says yes.
-/
import Derived.Test.YtkfomhllaogplaaMD
import Derived.Laws.StructEq
namespace Go.Proofs.Ytkfomhllaogplaa
open Go.RowKit Go.Maps Mm

theorem cellsOf_at (l : Cs) (k : Nat) (h : k < l.length) : (cellsOf l)[k * 2]? = some (.int .u32 l[k].1) ∧ (cellsOf l)[k * 2 + 1]? = some (.int .u8 l[k].2) := by
  induction l generalizing k with
  | nil => simp at h
  | cons p r ih =>
    have e : cellsOf (p :: r) = .int .u32 p.1 :: .int .u8 p.2 :: cellsOf r := by simp [cellsOf]
    rw [e]
    cases k with
    | zero => simp
    | succ k =>
      have := ih k (by simpa using h)
      rw [show (k + 1) * 2 = k * 2 + 1 + 1 by omega]
      simpa using this

set_option maxHeartbeats 1000000 in
theorem same_yes {base base' : Nat} {v v' : Value} {l : Cs} (w : World) (h : w.ownsRow base 69 2 v l.length (cellsOf l)) (h' : w.ownsRow base' 69 2 v' l.length (cellsOf l)) (hl : l.length ≤ 4294967296) :
    Calls Try.prog 21 #[v, v'] w fun e w' => e = .returned (.bool true) ∧ ∃ n, w' = w.drewN n := by
  rcases h.2 with ⟨rfl, h0⟩ | ⟨g, cap, cur, rfl, hb, _⟩
  · obtain rfl : l = [] := List.eq_nil_of_length_eq_zero h0
    rcases h'.2 with ⟨rfl, _⟩ | ⟨g', cap', cur', rfl, _⟩
    all_goals
      go_enter Try.func21, Try.ntmps21
      go_wp2
      go_loopw [5] (fun u W => u = .int .i64 0 ∧ W = w) (fun _ _ => 0)
      case atStart => exact ⟨rfl, rfl⟩
      case round =>
        obtain ⟨rfl, rfl⟩ := hrel
        go_wp2
        go_ret
        exact ⟨rfl, 0, rfl⟩
  · rcases h'.2 with ⟨rfl, h0⟩ | ⟨g', cap', cur', rfl, _⟩
    · obtain rfl : l = [] := List.eq_nil_of_length_eq_zero h0
      go_enter Try.func21, Try.ntmps21
      go_wp2
      go_loopw [5] (fun u W => u = .int .i64 0 ∧ W = w) (fun _ _ => 0)
      case atStart => exact ⟨rfl, rfl⟩
      case round =>
        obtain ⟨rfl, rfl⟩ := hrel
        go_wp2
        go_ret
        exact ⟨rfl, 0, rfl⟩
    · go_enter Try.func21, Try.ntmps21
      go_wp2
      go_loopw [5] (fun u W => ∃ k n : Nat, u = .int .i64 k ∧ k ≤ l.length ∧ W = w.drewN n) (fun u _ => l.length - (intOf u).toNat)
      case atStart => exact ⟨0, 0, rfl, Nat.zero_le _, rfl⟩
      case round =>
        obtain ⟨k, n, rfl, hk, hW⟩ := hrel
        by_cases hlt : k < l.length
        · obtain ⟨x, y⟩ := cellsOf_at l k hlt
          obtain ⟨p, hp⟩ : ∃ p, p = l[k] := ⟨_, rfl⟩
          rw [← hp] at x y
          have a0 : wr.cell? ⟨g, k * 2, none⟩ = some (.int .u32 p.1) := by rw [hW]; exact (h.cellAt (k * 2) (by omega)).trans x
          have a1 : wr.cell? ⟨g, k * 2 + 1, none⟩ = some (.int .u8 p.2) := by rw [hW]; exact (h.cellAt (k * 2 + 1) (by omega)).trans y
          have b0 : wr.cell? ⟨g', k * 2, none⟩ = some (.int .u32 p.1) := by rw [hW]; exact (h'.cellAt (k * 2) (by omega)).trans x
          have b1 : wr.cell? ⟨g', k * 2 + 1, none⟩ = some (.int .u8 p.2) := by rw [hW]; exact (h'.cellAt (k * 2 + 1) (by omega)).trans y
          have HW := hide hW
          clear hW x y hp h h'
          go_wp2
          go_quiet (fail)
          go_wp2
          exact ⟨⟨k + 1, n + nq, by go_num, by omega, by rw [HW.out, World.drewN_drewN]⟩, by simp [intOf]; omega⟩
        · have e : k = l.length := by omega
          subst e
          go_wp2
          go_ret
          exact ⟨rfl, n, rfl⟩
end Go.Proofs.Ytkfomhllaogplaa
