/-
  The library's sort at words of 32 bits: the order's test, and the sort by insertion.
-/
import Derived.Test.YtkfomhllaogplaaProg
import Derived.Sort.WalkA
import Derived.Sort.AssemblyPlain
namespace Go.Proofs.Ytkfomhllaogplaa
open Go.RowKit Go.Sort

theorem hide {p : Prop} (h : p) : Hid p := h
abbrev U : Int → Value := Value.int .u32

theorem isNaN_u (x : Int) (w : World) : Calls Try.prog 86 #[.int .u32 x] w fun e w' => e = .returned (.bool false) ∧ w' = w := by
  go_enter Try.func86, Try.ntmps86
  go_wp2
  go_ret
  exact ⟨by simp, rfl⟩
theorem less_u (x y : Int) (w : World) : Calls Try.prog 76 #[.int .u32 x, .int .u32 y] w fun e w' => e = .returned (.bool (ltInt x y)) ∧ w' = w := by
  go_enter Try.func76, Try.ntmps76
  go_wp2_with (go_at_call 86; refine (isNaN_u _ _).mono ?_; rintro e w' ⟨rfl, rfl⟩)
  go_ret
  exact ⟨by simp [ltInt], rfl⟩

set_option maxHeartbeats 1000000 in
theorem insertion_u (blk off cap a b : Nat) (d : Array Int) (w : World) (hH : Holds U w blk off d) (hab : a ≤ b) (hb : b ≤ d.size) (hsz : d.size < 4611686018427387904) :
    Calls Try.prog 70 #[.slice (some ⟨blk, off, none⟩) d.size cap, .int .i64 a, .int .i64 b] w fun e w' =>
      e = .returned (.tuple #[]) ∧ ∃ n, w' = putRow U (Sort.ahead w n) blk off (Sort.insertionSort ltInt d a b) := by
  go_enter Try.func70, Try.ntmps70
  go_wp2
  go_loopw [6] (fun u W => ∃ (i n : Nat) (x : Array Int), u = .int .i64 i ∧ a < i ∧ i ≤ b + 1 ∧ x.size = d.size ∧ W = putRow U (Sort.ahead w n) blk off x ∧ insOuter ltInt a b i x = insOuter ltInt a b (a + 1) d) (fun u _ => b + 1 - (Go.Proofs.intOf u).toNat)
  case atStart => exact ⟨a + 1, 0, d, by go_num, by omega, by omega, rfl, (putRow_self _ _ _ _ _ hH).symm, rfl⟩
  case round =>
    obtain ⟨i, n, x, rfl, h1, h2, hx, hW, hO⟩ := hrel
    have HO := hide hO
    clear hO
    by_cases hib : i < b
    · go_wp2
      go_loopw [7] (fun u W => ∃ (j m : Nat) (y : Array Int), u = .int .i64 j ∧ a ≤ j ∧ j ≤ i ∧ y.size = d.size ∧ W = putRow U (Sort.ahead w m) blk off y ∧ insInner ltInt a j y = insInner ltInt a i x) (fun u _ => (Go.Proofs.intOf u).toNat)
      case atStart => exact ⟨i, n, x, rfl, by omega, Nat.le_refl _, hx, rfl, rfl⟩
      case round =>
        obtain ⟨j, m, y, rfl, h3, h4, hy, hV, hI⟩ := hrel
        obtain ⟨g, hg⟩ : ∃ g : Nat → Int, ∀ t, g t = y[t]! := ⟨fun t => y[t]!, fun _ => rfl⟩
        have rd : ∀ t, t < d.size → wr.cell? ⟨blk, off + t, none⟩ = some (.int .u32 (g t)) := fun t ht => by
          rw [hV, hg]; exact cell?_putRow _ _ _ _ d y (holds_ahead _ _ _ _ _ _ hH) hy t (by omega)
        have fz : ∀ t, t < d.size → wr.frozen? ⟨blk, off + t, none⟩ = false := fun t ht => by
          rw [hV, frozen?_putRow]; exact ((holds_ahead _ _ m _ _ _ hH) t ht).2
        have HV := hide hV
        have HG := hide hg
        have HI := hide hI
        clear hV hg hI hH
        have leave : (j ≤ a ∨ ltInt y[j]! y[j - 1]! = false) → ∀ q, ∃ i' n' x', Value.int .i64 ((i : Int) + 1) = .int .i64 (i' : Nat) ∧ a < i' ∧ i' ≤ b + 1 ∧ x'.size = d.size ∧
            wr.drewN q = putRow U (Sort.ahead w n') blk off x' ∧ insOuter ltInt a b i' x' = insOuter ltInt a b (a + 1) d := fun hs q =>
          ⟨i + 1, m + q, y, by go_num, by omega, by omega, hy, by rw [HV.out]; exact putRow_drewN _ _ _ _ _ _ _,
            by rw [← HO.out, insOuter_go _ _ _ _ _ hib, ← HI.out, insInner_stop _ _ _ _ hs]⟩
        have LEAVE := hide leave
        clear leave
        go_wp2
        by_cases hj : a < j
        · go_quiet (first | (go_at_call 76; refine Calls.quiet_of_same (less_u _ _ _)))
          go_wp2
          · have hl : ltInt (g j) (g (j - 1)) = true := by assumption
            go_region
            all_goals go_wp2
            go_roundw
            case rel =>
              refine ⟨j - 1, m + (nq + 1), swp y j (j - 1), by congr 1; omega, by omega, by omega, by rw [size_swp]; exact hy, ?_, ?_⟩
              · rw [HV.out, HG.out, HG.out]
                exact swap_worldA _ w m (nq + 1) blk off y j (j - 1) (by omega) (by omega)
              · rw [← HI.out, insInner_go ltInt a j y hj (by rw [← HG.out, ← HG.out]; exact hl)]
            case measure => simp [Go.Proofs.intOf]; omega
          · have hl : ltInt (g j) (g (j - 1)) = false := by assumption
            go_roundw
            case rel => exact LEAVE.out (Or.inr (by rw [← HG.out, ← HG.out]; exact hl)) nq
            case measure => simp [Go.Proofs.intOf]; omega
        · go_quiet (first | (go_at_call 76; refine Calls.quiet_of_same (less_u _ _ _)))
          go_wp2
          go_roundw
          case rel => exact LEAVE.out (Or.inl (by omega)) nq
          case measure => simp [Go.Proofs.intOf]; omega
    · go_wp2
      go_end0
      exact ⟨rfl, n, by unfold Sort.insertionSort; rw [← HO.out, insOuter_stop _ _ _ _ _ hib]⟩
end Go.Proofs.Ytkfomhllaogplaa
