/-
  The library's sort at words of 32 bits: a range turned round; the heap.
-/
import Derived.Test.YtkfomhllaogplaaSA
import Derived.Sort.WalkB3
namespace Go.Proofs.Ytkfomhllaogplaa
open Go.RowKit Go.Sort

/-- What the row's cells hold in a world that is w but for the row and some draws. -/
theorem row_holds {w W : World} {blk off m : Nat} {d y : Array Int} (hH : Holds U w blk off d) (hy : y.size = d.size) (hW : W = putRow U (Sort.ahead w m) blk off y) : Holds U W blk off y := by
  rw [hW]; exact holds_putRow U _ blk off d y (holds_ahead U w m blk off d hH) hy

set_option maxHeartbeats 1600000 in
set_option maxRecDepth 1000000 in
theorem reverse_u (blk off cap : Nat) (d : Array Int) (a b : Nat) (w : World) (hH : Holds U w blk off d) (hab : a ≤ b) (hb : b ≤ d.size) (hsz : d.size < 4611686018427387904) :
    Calls Try.prog 74 #[.slice (some ⟨blk, off, none⟩) d.size cap, .int .i64 a, .int .i64 b] w fun e w' => e = .returned (.tuple #[]) ∧ ∃ n, w' = putRow U (Sort.ahead w n) blk off (reverseRange d a b) := by
  go_enter Try.func74, Try.ntmps74
  go_wp2
  go_loopg [6, 7] (b - a) (fun k u v W => ∃ (i j : Nat) (z : Int) (y : Array Int) (n : Nat), u = .int .i64 i ∧ v = .int .i64 z ∧ ((i : Int) < z → z = j ∧ j < d.size) ∧ (¬ (i : Int) < z → ¬ i < j) ∧ j - i ≤ k ∧
    y.size = d.size ∧ W = putRow U (Sort.ahead w n) blk off y ∧ reverseLoop i j y = reverseLoop a (b - 1) d)
  case atStart => exact ⟨a, b - 1, (b : Int) - 1, d, 0, rfl, rfl, fun h => ⟨by omega, by omega⟩, fun h => by omega, by omega, rfl, (putRow_self U w blk off d hH).symm, rfl⟩
  case round =>
    obtain ⟨i, j, z, y, n, rfl, rfl, h1, h2, hk, hy, hW, hE⟩ := hrel
    by_cases hlt : (i : Int) < z
    · obtain ⟨rfl, hj⟩ := h1 hlt
      have hij : i < j := by omega
      have hK := row_holds hH hy hW
      obtain ⟨ci, fi⟩ := hK i (by omega)
      obtain ⟨cj, fj⟩ := hK j (by omega)
      have A : Aside (wr = putRow U (Sort.ahead w n) blk off y) := hW
      clear hW hK hH h1 h2
      go_wp2_with fail
      go_region
      go_wp2
      go_roundg (j - 1 - (i + 1))
      case measure => omega
      case rel =>
        rw [reverseLoop, if_pos hij] at hE
        exact ⟨i + 1, j - 1, (j : Int) - 1, swp y i j, n + 1, by simp, rfl, fun h => ⟨by omega, by omega⟩, fun h => by omega, Nat.le_refl _, by rw [size_swp]; exact hy,
          swap_world U (by omega) (by omega) A.out (by simp [U, getElem!_pos, show j < y.size by omega]) rfl, hE⟩
    · have hnot := h2 hlt
      go_wp2
      go_end0
      refine ⟨rfl, n, ?_⟩
      rw [reverseLoop, if_neg hnot] at hE
      rw [reverseRange, ← hE]

set_option maxHeartbeats 3200000 in
set_option maxRecDepth 1000000 in
theorem sift_u (blk off len cap : Nat) (d : Array Int) (hlen : d.size = len) (lo hi first : Nat) (w : World) (hH : Holds U w blk off d) (hlo : lo ≤ hi) (hb : first + hi ≤ d.size) (hsz : d.size < 4611686018427387904) :
    Calls Try.prog 81 #[.slice (some ⟨blk, off, none⟩) len cap, .int .i64 lo, .int .i64 hi, .int .i64 first] w fun e w' => e = .returned (.tuple #[]) ∧ ∃ n, w' = putRow U (Sort.ahead w n) blk off (siftDown ltInt hi first lo d) := by
  subst hlen
  go_enter Try.func81, Try.ntmps81
  go_wp2
  go_loopg [8] (hi - lo) (fun k u W => ∃ (r : Nat) (y : Array Int) (n : Nat), u = .int .i64 r ∧ r ≤ hi ∧ hi - r ≤ k ∧ y.size = d.size ∧ W = putRow U (Sort.ahead w n) blk off y ∧ siftDown ltInt hi first r y = siftDown ltInt hi first lo d)
  case atStart => exact ⟨lo, d, 0, rfl, hlo, Nat.le_refl _, rfl, (putRow_self U w blk off d hH).symm, rfl⟩
  case round =>
    obtain ⟨r, y, n, rfl, hr, hk, hy, hW, hE⟩ := hrel
    have hK := row_holds hH hy hW
    have rd : ∀ t, t < d.size → wr.cell? ⟨blk, off + t, none⟩ = some (.int .u32 y[t]!) := fun t ht => (hK t (by omega)).1
    have fz : ∀ t, t < d.size → wr.frozen? ⟨blk, off + t, none⟩ = false := fun t ht => (hK t (by omega)).2
    have A : Aside (wr = putRow U (Sort.ahead w n) blk off y) := hW
    clear hW hH hK
    by_cases h0 : hi ≤ 2 * r + 1
    · have h0z : (hi : Int) ≤ 2 * (r : Int) + 1 := by omega
      go_wp2
      go_end0
      exact ⟨rfl, n, by rw [A.out, ← hE, sd_end ltInt y h0]⟩
    · have h0z : ¬ ((hi : Int) ≤ 2 * (r : Int) + 1) := by omega
      by_cases h1 : 2 * r + 2 < hi
      · have h1z : 2 * (r : Int) + 1 + 1 < (hi : Int) := by omega
        go_wp2_with fail
        go_big_quiet (first | (go_at_call 76; refine Calls.quiet_of_same (less_u _ _ _)))
        go_wp2_with fail
        · have hL : ltInt y[first + 2 * r + 1]! y[first + 2 * r + 2]! = true := by assumption
          revert nq; intro q1
          have rd2 : ∀ t, t < d.size → (wr.drewN q1).cell? ⟨blk, off + t, none⟩ = some (.int .u32 y[t]!) := rd
          have fz2 : ∀ t, t < d.size → (wr.drewN q1).frozen? ⟨blk, off + t, none⟩ = false := fz
          have A2 : Aside (wr.drewN q1 = putRow U (Sort.ahead w (n + q1)) blk off y) := drewN_world U A.out q1
          clear rd fz A
          generalize wr.drewN q1 = V at rd2 fz2 A2 ⊢
          go_big_quiet (first | (go_at_call 76; refine Calls.quiet_of_same (less_u _ _ _)))
          go_wp2_with fail
          · have hS : ltInt y[first + r]! y[first + 2 * r + 2]! = false := by
              have : (!ltInt y[first + r]! y[first + 2 * r + 2]!) = true := by assumption
              simpa using this
            (try simp only [Exit.inBlock, Exit.then]); refine bodyPost_ret (results_none rfl _ _ _) rfl ?_
            exact ⟨rfl, n + q1 + nq, by rw [drewN_world U A2.out nq, ← hE, sd_right_stop ltInt y h1 hL hS]⟩
          · have hG : ltInt y[first + r]! y[first + 2 * r + 2]! = true := by
              have : (!ltInt y[first + r]! y[first + 2 * r + 2]!) = false := by assumption
              simpa using this
            have rd3 : ∀ t, t < d.size → (V.drewN nq).cell? ⟨blk, off + t, none⟩ = some (.int .u32 y[t]!) := rd2
            have fz3 : ∀ t, t < d.size → (V.drewN nq).frozen? ⟨blk, off + t, none⟩ = false := fz2
            have A3 : Aside (V.drewN nq = putRow U (Sort.ahead w (n + q1 + nq)) blk off y) := drewN_world U A2.out nq
            clear rd2 fz2 A2
            generalize V.drewN nq = V3 at rd3 fz3 A3 ⊢
            go_region
            go_wp2
            go_roundg (hi - (2 * r + 2))
            case measure => omega
            case rel =>
              refine ⟨2 * r + 2, swp y (first + r) (first + (2 * r + 1 + 1)), n + q1 + nq + 1, by simp <;> omega, by omega, Nat.le_refl _, by rw [size_swp]; exact hy, swap_world U (by omega) (by omega) A3.out rfl rfl, ?_⟩
              rw [← hE, sd_right_go ltInt y h1 hL hG]
        · have hL : ltInt y[first + 2 * r + 1]! y[first + 2 * r + 2]! = false := by assumption
          revert nq; intro q1
          have rd2 : ∀ t, t < d.size → (wr.drewN q1).cell? ⟨blk, off + t, none⟩ = some (.int .u32 y[t]!) := rd
          have fz2 : ∀ t, t < d.size → (wr.drewN q1).frozen? ⟨blk, off + t, none⟩ = false := fz
          have A2 : Aside (wr.drewN q1 = putRow U (Sort.ahead w (n + q1)) blk off y) := drewN_world U A.out q1
          clear rd fz A
          generalize wr.drewN q1 = V at rd2 fz2 A2 ⊢
          go_big_quiet (first | (go_at_call 76; refine Calls.quiet_of_same (less_u _ _ _)))
          go_wp2_with fail
          · have hS : ltInt y[first + r]! y[first + 2 * r + 1]! = false := by
              have : (!ltInt y[first + r]! y[first + 2 * r + 1]!) = true := by assumption
              simpa using this
            (try simp only [Exit.inBlock, Exit.then]); refine bodyPost_ret (results_none rfl _ _ _) rfl ?_
            exact ⟨rfl, n + q1 + nq, by rw [drewN_world U A2.out nq, ← hE, sd_left_stop ltInt y (by omega) (fun _ => hL) hS]⟩
          · have hG : ltInt y[first + r]! y[first + 2 * r + 1]! = true := by
              have : (!ltInt y[first + r]! y[first + 2 * r + 1]!) = false := by assumption
              simpa using this
            have rd3 : ∀ t, t < d.size → (V.drewN nq).cell? ⟨blk, off + t, none⟩ = some (.int .u32 y[t]!) := rd2
            have fz3 : ∀ t, t < d.size → (V.drewN nq).frozen? ⟨blk, off + t, none⟩ = false := fz2
            have A3 : Aside (V.drewN nq = putRow U (Sort.ahead w (n + q1 + nq)) blk off y) := drewN_world U A2.out nq
            clear rd2 fz2 A2
            generalize V.drewN nq = V3 at rd3 fz3 A3 ⊢
            go_region
            go_wp2
            go_roundg (hi - (2 * r + 1))
            case measure => omega
            case rel =>
              refine ⟨2 * r + 1, swp y (first + r) (first + (2 * r + 1)), n + q1 + nq + 1, by simp <;> omega, by omega, Nat.le_refl _, by rw [size_swp]; exact hy, swap_world U (by omega) (by omega) A3.out rfl rfl, ?_⟩
              rw [← hE, sd_left_go ltInt y (by omega) (fun _ => hL) hG]
      · have h1z : decide (2 * (r : Int) + 1 + 1 < (hi : Int)) = false := decide_eq_false (by omega)
        go_wp2_with fail
        go_big_quiet (first | (go_at_call 76; refine Calls.quiet_of_same (less_u _ _ _)))
        go_wp2_with fail
        revert nq; intro q1
        have rd2 : ∀ t, t < d.size → (wr.drewN q1).cell? ⟨blk, off + t, none⟩ = some (.int .u32 y[t]!) := rd
        have fz2 : ∀ t, t < d.size → (wr.drewN q1).frozen? ⟨blk, off + t, none⟩ = false := fz
        have A2 : Aside (wr.drewN q1 = putRow U (Sort.ahead w (n + q1)) blk off y) := drewN_world U A.out q1
        clear rd fz A
        generalize wr.drewN q1 = V at rd2 fz2 A2 ⊢
        go_big_quiet (first | (go_at_call 76; refine Calls.quiet_of_same (less_u _ _ _)))
        go_wp2_with fail
        · have hS : ltInt y[first + r]! y[first + 2 * r + 1]! = false := by
            have : (!ltInt y[first + r]! y[first + 2 * r + 1]!) = true := by assumption
            simpa using this
          (try simp only [Exit.inBlock, Exit.then]); refine bodyPost_ret (results_none rfl _ _ _) rfl ?_
          exact ⟨rfl, n + q1 + nq, by rw [drewN_world U A2.out nq, ← hE, sd_left_stop ltInt y (by omega) (fun h => absurd h h1) hS]⟩
        · have hG : ltInt y[first + r]! y[first + 2 * r + 1]! = true := by
            have : (!ltInt y[first + r]! y[first + 2 * r + 1]!) = false := by assumption
            simpa using this
          have rd3 : ∀ t, t < d.size → (V.drewN nq).cell? ⟨blk, off + t, none⟩ = some (.int .u32 y[t]!) := rd2
          have fz3 : ∀ t, t < d.size → (V.drewN nq).frozen? ⟨blk, off + t, none⟩ = false := fz2
          have A3 : Aside (V.drewN nq = putRow U (Sort.ahead w (n + q1 + nq)) blk off y) := drewN_world U A2.out nq
          clear rd2 fz2 A2
          generalize V.drewN nq = V3 at rd3 fz3 A3 ⊢
          go_region
          go_wp2
          go_roundg (hi - (2 * r + 1))
          case measure => omega
          case rel =>
            refine ⟨2 * r + 1, swp y (first + r) (first + (2 * r + 1)), n + q1 + nq + 1, by simp <;> omega, by omega, Nat.le_refl _, by rw [size_swp]; exact hy, swap_world U (by omega) (by omega) A3.out rfl rfl, ?_⟩
            rw [← hE, sd_left_go ltInt y (by omega) (fun h => absurd h h1) hG]

set_option maxHeartbeats 3200000 in
set_option maxRecDepth 1000000 in
theorem heap_u (blk off len cap : Nat) (d : Array Int) (hlen : d.size = len) (a b : Nat) (w : World) (hH : Holds U w blk off d) (hab : a ≤ b) (hb : b ≤ d.size) (hsz : d.size < 4611686018427387904) :
    Calls Try.prog 71 #[.slice (some ⟨blk, off, none⟩) len cap, .int .i64 a, .int .i64 b] w fun e w' => e = .returned (.tuple #[]) ∧ ∃ n, w' = putRow U (Sort.ahead w n) blk off (heapSort ltInt d a b) := by
  subst hlen
  have ec : ((b - a : Nat) : Int) = (b : Int) - (a : Int) := by omega
  have sz : ∀ (hi F r : Nat) (x : Array Int), (siftDown ltInt hi F r x).size = x.size := fun hi F r x => size_siftDown ltInt _ _ _ _ _ (Nat.le_refl _)
  have SZ := hide sz
  clear sz
  go_enter Try.func71, Try.ntmps71
  go_wp2
  go_loopg [9] ((b - a - 1) / 2 + 1) (fun k u W => u = .int .i64 ((k : Int) - 1) ∧ k ≤ (b - a - 1) / 2 + 1 ∧ ∃ (y : Array Int) (n : Nat), y.size = d.size ∧ W = putRow U (Sort.ahead w n) blk off y ∧
    heapBuild ltInt (b - a) a k y = heapBuild ltInt (b - a) a ((b - a - 1) / 2 + 1) d)
  case atStart => exact ⟨by rw [half_start hab], Nat.le_refl _, d, 0, rfl, (putRow_self U w blk off d hH).symm, rfl⟩
  case round =>
    obtain ⟨rfl, hkk, y, n, hy, hW, hE⟩ := hrel
    have hK := row_holds hH hy hW
    have A : Aside (wr = putRow U (Sort.ahead w n) blk off y) := hW
    clear hW
    cases gk with
    | zero =>
      have hB : Hid (y = heapBuild ltInt (b - a) a ((b - a - 1) / 2 + 1) d) := hE
      clear hE hK hkk
      go_wp2
      go_loopg [10] (b - a) (fun k u W => u = .int .i64 ((k : Int) - 1) ∧ k ≤ b - a ∧ ∃ (x : Array Int) (m : Nat), x.size = d.size ∧ W = putRow U (Sort.ahead w m) blk off x ∧ heapPop ltInt a k x = heapPop ltInt a (b - a) y)
      case atStart => exact ⟨by rw [ec], Nat.le_refl _, y, n, hy, A.out, rfl⟩
      case round =>
        obtain ⟨rfl, hkk, x, m, hx, hV, hE2⟩ := hrel
        cases gk with
        | zero =>
          go_wp2
          go_end0
          refine ⟨rfl, m, ?_⟩
          have e : x = heapSort ltInt d a b := by rw [heapSort, ← hB.out, ← hE2]; rfl
          rw [← e]
        | succ k =>
          have hJ := row_holds hH hx hV
          have rd : ∀ t, t < d.size → wr.cell? ⟨blk, off + t, none⟩ = some (.int .u32 x[t]!) := fun t ht => (hJ t (by omega)).1
          have fz : ∀ t, t < d.size → wr.frozen? ⟨blk, off + t, none⟩ = false := fun t ht => (hJ t (by omega)).2
          have A2 : Aside (wr = putRow U (Sort.ahead w m) blk off x) := hV
          clear hV hJ
          rcases Nat.eq_zero_or_pos k with hk0 | hkp
          · subst hk0
            go_wp2_with fail
            go_region
            go_wp2_with fail
            rw [swap_world U (i := a) (j := a) (by omega) (by omega) A2.out rfl rfl]
            refine (sift_u blk off d.size cap (swp x a a) (by rw [size_swp]; exact hx) 0 0 a _ (holds_putRow U _ blk off d _ (holds_ahead U w (m + 1) blk off d hH) (by rw [size_swp]; exact hx)) (Nat.zero_le _) (by rw [size_swp]; omega) (by rw [size_swp]; omega)).mono ?_
            rintro e w1 ⟨rfl, q, hw1⟩
            go_wp2
            go_roundg 0
            case measure => omega
            case rel =>
              refine ⟨by simp, by omega, siftDown ltInt 0 a 0 (swp x a a), m + 1 + q, by rw [SZ.out, size_swp]; exact hx, ?_, hE2⟩
              first
                | rw [hw1, putRow_ahead_putRow U w (m + 1) q blk off _ _ (SZ.out _ _ _ _)]
                | rw [putRow_ahead_putRow U w (m + 1) q blk off _ _ (SZ.out _ _ _ _)]
          · go_wp2_with fail
            go_region
            go_wp2_with fail
            rw [swap_world U (i := a) (j := a + k) (by omega) (by omega) A2.out rfl rfl]
            refine (sift_u blk off d.size cap (swp x a (a + k)) (by rw [size_swp]; exact hx) 0 k a _ (holds_putRow U _ blk off d _ (holds_ahead U w (m + 1) blk off d hH) (by rw [size_swp]; exact hx)) (Nat.zero_le _) (by rw [size_swp]; omega) (by rw [size_swp]; omega)).mono ?_
            rintro e w1 ⟨rfl, q, hw1⟩
            go_wp2
            go_roundg k
            case measure => omega
            case rel =>
              refine ⟨by simp, by omega, siftDown ltInt k a 0 (swp x a (a + k)), m + 1 + q, by rw [SZ.out, size_swp]; exact hx, ?_, hE2⟩
              first
                | rw [hw1, putRow_ahead_putRow U w (m + 1) q blk off _ _ (SZ.out _ _ _ _)]
                | rw [putRow_ahead_putRow U w (m + 1) q blk off _ _ (SZ.out _ _ _ _)]
    | succ k =>
      have hcall := sift_u blk off d.size cap y hy k (b - a) a wr hK (by omega) (by omega) (by omega)
      rw [ec] at hcall
      go_wp2_with (go_at_call 81; refine hcall.mono ?_; rintro e w1 ⟨rfl, q, hw1⟩)
      go_roundg k
      case measure => omega
      case rel =>
        refine ⟨by simp, by omega, siftDown ltInt (b - a) a k y, n + q, by rw [SZ.out]; exact hy, ?_, hE⟩
        rw [A.out, putRow_ahead_putRow U w n q blk off y _ (SZ.out _ _ _ _)]
end Go.Proofs.Ytkfomhllaogplaa
