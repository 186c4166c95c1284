/-
  The library's sort at words of 32 bits: the order's test, and the sort by insertion.
  The library's sort at words of 32 bits: a range turned round; the heap.
  The library's sort at words of 32 bits: which of two, the middle of three, and of three neighbours.
  The library's sort at words of 32 bits: the pivot.
  The library's contracts that are used, at this program's numbers: as the kit's own command prints them.
-/
import Derived.Test.YtcffpmicencfpabGreatProg
import Derived.Sort.WalkA
import Derived.Sort.AssemblyPlain
import Derived.Sort.WalkB3
import Derived.Sort.WalkD1
import Derived.Sort.Walk11
import Derived.Shelf.Small.Bits

namespace Go.Proofs.YtcffpmicencfpabGreat
open Go.RowKit Go.Sort

theorem hide {p : Prop} (h : p) : Hid p := h
abbrev U : Int → Value := Value.int .u32

theorem isNaN_u (x : Int) (w : World) : Calls Tryz.prog 90 #[.int .u32 x] w fun e w' => e = .returned (.bool false) ∧ w' = w := by
  go_enter Tryz.func90, Tryz.ntmps90
  go_wp2
  go_ret
  exact ⟨by simp, rfl⟩
theorem less_u (x y : Int) (w : World) : Calls Tryz.prog 97 #[.int .u32 x, .int .u32 y] w fun e w' => e = .returned (.bool (ltInt x y)) ∧ w' = w := by
  go_enter Tryz.func97, Tryz.ntmps97
  go_wp2_with (go_at_call 90; refine (isNaN_u _ _).mono ?_; rintro e w' ⟨rfl, rfl⟩)
  go_ret
  exact ⟨by simp [ltInt], rfl⟩

set_option maxHeartbeats 1000000 in
theorem insertion_u (blk off cap a b : Nat) (d : Array Int) (w : World) (hH : Holds U w blk off d) (hab : a ≤ b) (hb : b ≤ d.size) (hsz : d.size < 4611686018427387904) :
    Calls Tryz.prog 91 #[.slice (some ⟨blk, off, none⟩) d.size cap, .int .i64 a, .int .i64 b] w fun e w' =>
      e = .returned (.tuple #[]) ∧ ∃ n, w' = putRow U (Sort.ahead w n) blk off (Sort.insertionSort ltInt d a b) := by
  go_enter Tryz.func91, Tryz.ntmps91
  go_wp2
  go_loopw [6] (fun u W => ∃ (i n : Nat) (x : Array Int), u = .int .i64 i ∧ a < i ∧ i ≤ b + 1 ∧ x.size = d.size ∧ W = putRow U (Sort.ahead w n) blk off x ∧ insOuter ltInt a b i x = insOuter ltInt a b (a + 1) d) (fun u _ => b + 1 - (Go.Proofs.intOf u).toNat)
  case atStart => exact ⟨a + 1, 0, d, by go_num, by omega, by omega, rfl, (putRow_self _ _ _ _ _ hH).symm, rfl⟩
  case round =>
    obtain ⟨i, n, x, rfl, h1, h2, hx, hW, hO⟩ := hrel
    have HO := hide hO
    clear hO
    by_cases hib : i < b
    · go_wp2
      go_loopw [7] (fun u W => ∃ (j m : Nat) (y : Array Int), u = .int .i64 j ∧ a ≤ j ∧ j ≤ i ∧ y.size = d.size ∧ W = putRow U (Sort.ahead w m) blk off y ∧ insInner ltInt a j y = insInner ltInt a i x) (fun u _ => (Go.Proofs.intOf u).toNat)
      case atStart => exact ⟨i, n, x, rfl, by omega, Nat.le_refl _, hx, rfl, rfl⟩
      case round =>
        obtain ⟨j, m, y, rfl, h3, h4, hy, hV, hI⟩ := hrel
        obtain ⟨g, hg⟩ : ∃ g : Nat → Int, ∀ t, g t = y[t]! := ⟨fun t => y[t]!, fun _ => rfl⟩
        have rd : ∀ t, t < d.size → wr.cell? ⟨blk, off + t, none⟩ = some (.int .u32 (g t)) := fun t ht => by
          rw [hV, hg]; exact cell?_putRow _ _ _ _ d y (holds_ahead _ _ _ _ _ _ hH) hy t (by omega)
        have fz : ∀ t, t < d.size → wr.frozen? ⟨blk, off + t, none⟩ = false := fun t ht => by
          rw [hV, frozen?_putRow]; exact ((holds_ahead _ _ m _ _ _ hH) t ht).2
        have HV := hide hV
        have HG := hide hg
        have HI := hide hI
        clear hV hg hI hH
        have leave : (j ≤ a ∨ ltInt y[j]! y[j - 1]! = false) → ∀ q, ∃ i' n' x', Value.int .i64 ((i : Int) + 1) = .int .i64 (i' : Nat) ∧ a < i' ∧ i' ≤ b + 1 ∧ x'.size = d.size ∧
            wr.drewN q = putRow U (Sort.ahead w n') blk off x' ∧ insOuter ltInt a b i' x' = insOuter ltInt a b (a + 1) d := fun hs q =>
          ⟨i + 1, m + q, y, by go_num, by omega, by omega, hy, by rw [HV.out]; exact putRow_drewN _ _ _ _ _ _ _,
            by rw [← HO.out, insOuter_go _ _ _ _ _ hib, ← HI.out, insInner_stop _ _ _ _ hs]⟩
        have LEAVE := hide leave
        clear leave
        go_wp2
        by_cases hj : a < j
        · go_quiet (first | (go_at_call 97; refine Calls.quiet_of_same (less_u _ _ _)))
          go_wp2
          · have hl : ltInt (g j) (g (j - 1)) = true := by assumption
            go_region
            all_goals go_wp2
            go_roundw
            case rel =>
              refine ⟨j - 1, m + (nq + 1), swp y j (j - 1), by congr 1; omega, by omega, by omega, by rw [size_swp]; exact hy, ?_, ?_⟩
              · rw [HV.out, HG.out, HG.out]
                exact swap_worldA _ w m (nq + 1) blk off y j (j - 1) (by omega) (by omega)
              · rw [← HI.out, insInner_go ltInt a j y hj (by rw [← HG.out, ← HG.out]; exact hl)]
            case measure => simp [Go.Proofs.intOf]; omega
          · have hl : ltInt (g j) (g (j - 1)) = false := by assumption
            go_roundw
            case rel => exact LEAVE.out (Or.inr (by rw [← HG.out, ← HG.out]; exact hl)) nq
            case measure => simp [Go.Proofs.intOf]; omega
        · go_quiet (first | (go_at_call 97; refine Calls.quiet_of_same (less_u _ _ _)))
          go_wp2
          go_roundw
          case rel => exact LEAVE.out (Or.inl (by omega)) nq
          case measure => simp [Go.Proofs.intOf]; omega
    · go_wp2
      go_end0
      exact ⟨rfl, n, by unfold Sort.insertionSort; rw [← HO.out, insOuter_stop _ _ _ _ _ hib]⟩
end Go.Proofs.YtcffpmicencfpabGreat
namespace Go.Proofs.YtcffpmicencfpabGreat
open Go.RowKit Go.Sort

/-- What the row's cells hold in a world that is w but for the row and some draws. -/
theorem row_holds {w W : World} {blk off m : Nat} {d y : Array Int} (hH : Holds U w blk off d) (hy : y.size = d.size) (hW : W = putRow U (Sort.ahead w m) blk off y) : Holds U W blk off y := by
  rw [hW]; exact holds_putRow U _ blk off d y (holds_ahead U w m blk off d hH) hy

set_option maxHeartbeats 1600000 in
set_option maxRecDepth 1000000 in
theorem reverse_u (blk off cap : Nat) (d : Array Int) (a b : Nat) (w : World) (hH : Holds U w blk off d) (hab : a ≤ b) (hb : b ≤ d.size) (hsz : d.size < 4611686018427387904) :
    Calls Tryz.prog 95 #[.slice (some ⟨blk, off, none⟩) d.size cap, .int .i64 a, .int .i64 b] w fun e w' => e = .returned (.tuple #[]) ∧ ∃ n, w' = putRow U (Sort.ahead w n) blk off (reverseRange d a b) := by
  go_enter Tryz.func95, Tryz.ntmps95
  go_wp2
  go_loopg [6, 7] (b - a) (fun k u v W => ∃ (i j : Nat) (z : Int) (y : Array Int) (n : Nat), u = .int .i64 i ∧ v = .int .i64 z ∧ ((i : Int) < z → z = j ∧ j < d.size) ∧ (¬ (i : Int) < z → ¬ i < j) ∧ j - i ≤ k ∧
    y.size = d.size ∧ W = putRow U (Sort.ahead w n) blk off y ∧ reverseLoop i j y = reverseLoop a (b - 1) d)
  case atStart => exact ⟨a, b - 1, (b : Int) - 1, d, 0, rfl, rfl, fun h => ⟨by omega, by omega⟩, fun h => by omega, by omega, rfl, (putRow_self U w blk off d hH).symm, rfl⟩
  case round =>
    obtain ⟨i, j, z, y, n, rfl, rfl, h1, h2, hk, hy, hW, hE⟩ := hrel
    by_cases hlt : (i : Int) < z
    · obtain ⟨rfl, hj⟩ := h1 hlt
      have hij : i < j := by omega
      have hK := row_holds hH hy hW
      obtain ⟨ci, fi⟩ := hK i (by omega)
      obtain ⟨cj, fj⟩ := hK j (by omega)
      have A : Aside (wr = putRow U (Sort.ahead w n) blk off y) := hW
      clear hW hK hH h1 h2
      go_wp2_with fail
      go_region
      go_wp2
      go_roundg (j - 1 - (i + 1))
      case measure => omega
      case rel =>
        rw [reverseLoop, if_pos hij] at hE
        exact ⟨i + 1, j - 1, (j : Int) - 1, swp y i j, n + 1, by simp, rfl, fun h => ⟨by omega, by omega⟩, fun h => by omega, Nat.le_refl _, by rw [size_swp]; exact hy,
          swap_world U (by omega) (by omega) A.out (by simp [U, getElem!_pos, show j < y.size by omega]) rfl, hE⟩
    · have hnot := h2 hlt
      go_wp2
      go_end0
      refine ⟨rfl, n, ?_⟩
      rw [reverseLoop, if_neg hnot] at hE
      rw [reverseRange, ← hE]

set_option maxHeartbeats 3200000 in
set_option maxRecDepth 1000000 in
theorem sift_u (blk off len cap : Nat) (d : Array Int) (hlen : d.size = len) (lo hi first : Nat) (w : World) (hH : Holds U w blk off d) (hlo : lo ≤ hi) (hb : first + hi ≤ d.size) (hsz : d.size < 4611686018427387904) :
    Calls Tryz.prog 103 #[.slice (some ⟨blk, off, none⟩) len cap, .int .i64 lo, .int .i64 hi, .int .i64 first] w fun e w' => e = .returned (.tuple #[]) ∧ ∃ n, w' = putRow U (Sort.ahead w n) blk off (siftDown ltInt hi first lo d) := by
  subst hlen
  go_enter Tryz.func103, Tryz.ntmps103
  go_wp2
  go_loopg [8] (hi - lo) (fun k u W => ∃ (r : Nat) (y : Array Int) (n : Nat), u = .int .i64 r ∧ r ≤ hi ∧ hi - r ≤ k ∧ y.size = d.size ∧ W = putRow U (Sort.ahead w n) blk off y ∧ siftDown ltInt hi first r y = siftDown ltInt hi first lo d)
  case atStart => exact ⟨lo, d, 0, rfl, hlo, Nat.le_refl _, rfl, (putRow_self U w blk off d hH).symm, rfl⟩
  case round =>
    obtain ⟨r, y, n, rfl, hr, hk, hy, hW, hE⟩ := hrel
    have hK := row_holds hH hy hW
    have rd : ∀ t, t < d.size → wr.cell? ⟨blk, off + t, none⟩ = some (.int .u32 y[t]!) := fun t ht => (hK t (by omega)).1
    have fz : ∀ t, t < d.size → wr.frozen? ⟨blk, off + t, none⟩ = false := fun t ht => (hK t (by omega)).2
    have A : Aside (wr = putRow U (Sort.ahead w n) blk off y) := hW
    clear hW hH hK
    by_cases h0 : hi ≤ 2 * r + 1
    · have h0z : (hi : Int) ≤ 2 * (r : Int) + 1 := by omega
      go_wp2
      go_end0
      exact ⟨rfl, n, by rw [A.out, ← hE, sd_end ltInt y h0]⟩
    · have h0z : ¬ ((hi : Int) ≤ 2 * (r : Int) + 1) := by omega
      by_cases h1 : 2 * r + 2 < hi
      · have h1z : 2 * (r : Int) + 1 + 1 < (hi : Int) := by omega
        go_wp2_with fail
        go_big_quiet (first | (go_at_call 97; refine Calls.quiet_of_same (less_u _ _ _)))
        go_wp2_with fail
        · have hL : ltInt y[first + 2 * r + 1]! y[first + 2 * r + 2]! = true := by assumption
          revert nq; intro q1
          have rd2 : ∀ t, t < d.size → (wr.drewN q1).cell? ⟨blk, off + t, none⟩ = some (.int .u32 y[t]!) := rd
          have fz2 : ∀ t, t < d.size → (wr.drewN q1).frozen? ⟨blk, off + t, none⟩ = false := fz
          have A2 : Aside (wr.drewN q1 = putRow U (Sort.ahead w (n + q1)) blk off y) := drewN_world U A.out q1
          clear rd fz A
          generalize wr.drewN q1 = V at rd2 fz2 A2 ⊢
          go_big_quiet (first | (go_at_call 97; refine Calls.quiet_of_same (less_u _ _ _)))
          go_wp2_with fail
          · have hS : ltInt y[first + r]! y[first + 2 * r + 2]! = false := by
              have : (!ltInt y[first + r]! y[first + 2 * r + 2]!) = true := by assumption
              simpa using this
            (try simp only [Exit.inBlock, Exit.then]); refine bodyPost_ret (results_none rfl _ _ _) rfl ?_
            exact ⟨rfl, n + q1 + nq, by rw [drewN_world U A2.out nq, ← hE, sd_right_stop ltInt y h1 hL hS]⟩
          · have hG : ltInt y[first + r]! y[first + 2 * r + 2]! = true := by
              have : (!ltInt y[first + r]! y[first + 2 * r + 2]!) = false := by assumption
              simpa using this
            have rd3 : ∀ t, t < d.size → (V.drewN nq).cell? ⟨blk, off + t, none⟩ = some (.int .u32 y[t]!) := rd2
            have fz3 : ∀ t, t < d.size → (V.drewN nq).frozen? ⟨blk, off + t, none⟩ = false := fz2
            have A3 : Aside (V.drewN nq = putRow U (Sort.ahead w (n + q1 + nq)) blk off y) := drewN_world U A2.out nq
            clear rd2 fz2 A2
            generalize V.drewN nq = V3 at rd3 fz3 A3 ⊢
            go_region
            go_wp2
            go_roundg (hi - (2 * r + 2))
            case measure => omega
            case rel =>
              refine ⟨2 * r + 2, swp y (first + r) (first + (2 * r + 1 + 1)), n + q1 + nq + 1, by simp <;> omega, by omega, Nat.le_refl _, by rw [size_swp]; exact hy, swap_world U (by omega) (by omega) A3.out rfl rfl, ?_⟩
              rw [← hE, sd_right_go ltInt y h1 hL hG]
        · have hL : ltInt y[first + 2 * r + 1]! y[first + 2 * r + 2]! = false := by assumption
          revert nq; intro q1
          have rd2 : ∀ t, t < d.size → (wr.drewN q1).cell? ⟨blk, off + t, none⟩ = some (.int .u32 y[t]!) := rd
          have fz2 : ∀ t, t < d.size → (wr.drewN q1).frozen? ⟨blk, off + t, none⟩ = false := fz
          have A2 : Aside (wr.drewN q1 = putRow U (Sort.ahead w (n + q1)) blk off y) := drewN_world U A.out q1
          clear rd fz A
          generalize wr.drewN q1 = V at rd2 fz2 A2 ⊢
          go_big_quiet (first | (go_at_call 97; refine Calls.quiet_of_same (less_u _ _ _)))
          go_wp2_with fail
          · have hS : ltInt y[first + r]! y[first + 2 * r + 1]! = false := by
              have : (!ltInt y[first + r]! y[first + 2 * r + 1]!) = true := by assumption
              simpa using this
            (try simp only [Exit.inBlock, Exit.then]); refine bodyPost_ret (results_none rfl _ _ _) rfl ?_
            exact ⟨rfl, n + q1 + nq, by rw [drewN_world U A2.out nq, ← hE, sd_left_stop ltInt y (by omega) (fun _ => hL) hS]⟩
          · have hG : ltInt y[first + r]! y[first + 2 * r + 1]! = true := by
              have : (!ltInt y[first + r]! y[first + 2 * r + 1]!) = false := by assumption
              simpa using this
            have rd3 : ∀ t, t < d.size → (V.drewN nq).cell? ⟨blk, off + t, none⟩ = some (.int .u32 y[t]!) := rd2
            have fz3 : ∀ t, t < d.size → (V.drewN nq).frozen? ⟨blk, off + t, none⟩ = false := fz2
            have A3 : Aside (V.drewN nq = putRow U (Sort.ahead w (n + q1 + nq)) blk off y) := drewN_world U A2.out nq
            clear rd2 fz2 A2
            generalize V.drewN nq = V3 at rd3 fz3 A3 ⊢
            go_region
            go_wp2
            go_roundg (hi - (2 * r + 1))
            case measure => omega
            case rel =>
              refine ⟨2 * r + 1, swp y (first + r) (first + (2 * r + 1)), n + q1 + nq + 1, by simp <;> omega, by omega, Nat.le_refl _, by rw [size_swp]; exact hy, swap_world U (by omega) (by omega) A3.out rfl rfl, ?_⟩
              rw [← hE, sd_left_go ltInt y (by omega) (fun _ => hL) hG]
      · have h1z : decide (2 * (r : Int) + 1 + 1 < (hi : Int)) = false := decide_eq_false (by omega)
        go_wp2_with fail
        go_big_quiet (first | (go_at_call 97; refine Calls.quiet_of_same (less_u _ _ _)))
        go_wp2_with fail
        revert nq; intro q1
        have rd2 : ∀ t, t < d.size → (wr.drewN q1).cell? ⟨blk, off + t, none⟩ = some (.int .u32 y[t]!) := rd
        have fz2 : ∀ t, t < d.size → (wr.drewN q1).frozen? ⟨blk, off + t, none⟩ = false := fz
        have A2 : Aside (wr.drewN q1 = putRow U (Sort.ahead w (n + q1)) blk off y) := drewN_world U A.out q1
        clear rd fz A
        generalize wr.drewN q1 = V at rd2 fz2 A2 ⊢
        go_big_quiet (first | (go_at_call 97; refine Calls.quiet_of_same (less_u _ _ _)))
        go_wp2_with fail
        · have hS : ltInt y[first + r]! y[first + 2 * r + 1]! = false := by
            have : (!ltInt y[first + r]! y[first + 2 * r + 1]!) = true := by assumption
            simpa using this
          (try simp only [Exit.inBlock, Exit.then]); refine bodyPost_ret (results_none rfl _ _ _) rfl ?_
          exact ⟨rfl, n + q1 + nq, by rw [drewN_world U A2.out nq, ← hE, sd_left_stop ltInt y (by omega) (fun h => absurd h h1) hS]⟩
        · have hG : ltInt y[first + r]! y[first + 2 * r + 1]! = true := by
            have : (!ltInt y[first + r]! y[first + 2 * r + 1]!) = false := by assumption
            simpa using this
          have rd3 : ∀ t, t < d.size → (V.drewN nq).cell? ⟨blk, off + t, none⟩ = some (.int .u32 y[t]!) := rd2
          have fz3 : ∀ t, t < d.size → (V.drewN nq).frozen? ⟨blk, off + t, none⟩ = false := fz2
          have A3 : Aside (V.drewN nq = putRow U (Sort.ahead w (n + q1 + nq)) blk off y) := drewN_world U A2.out nq
          clear rd2 fz2 A2
          generalize V.drewN nq = V3 at rd3 fz3 A3 ⊢
          go_region
          go_wp2
          go_roundg (hi - (2 * r + 1))
          case measure => omega
          case rel =>
            refine ⟨2 * r + 1, swp y (first + r) (first + (2 * r + 1)), n + q1 + nq + 1, by simp <;> omega, by omega, Nat.le_refl _, by rw [size_swp]; exact hy, swap_world U (by omega) (by omega) A3.out rfl rfl, ?_⟩
            rw [← hE, sd_left_go ltInt y (by omega) (fun h => absurd h h1) hG]

set_option maxHeartbeats 3200000 in
set_option maxRecDepth 1000000 in
theorem heap_u (blk off len cap : Nat) (d : Array Int) (hlen : d.size = len) (a b : Nat) (w : World) (hH : Holds U w blk off d) (hab : a ≤ b) (hb : b ≤ d.size) (hsz : d.size < 4611686018427387904) :
    Calls Tryz.prog 92 #[.slice (some ⟨blk, off, none⟩) len cap, .int .i64 a, .int .i64 b] w fun e w' => e = .returned (.tuple #[]) ∧ ∃ n, w' = putRow U (Sort.ahead w n) blk off (heapSort ltInt d a b) := by
  subst hlen
  have ec : ((b - a : Nat) : Int) = (b : Int) - (a : Int) := by omega
  have sz : ∀ (hi F r : Nat) (x : Array Int), (siftDown ltInt hi F r x).size = x.size := fun hi F r x => size_siftDown ltInt _ _ _ _ _ (Nat.le_refl _)
  have SZ := hide sz
  clear sz
  go_enter Tryz.func92, Tryz.ntmps92
  go_wp2
  go_loopg [9] ((b - a - 1) / 2 + 1) (fun k u W => u = .int .i64 ((k : Int) - 1) ∧ k ≤ (b - a - 1) / 2 + 1 ∧ ∃ (y : Array Int) (n : Nat), y.size = d.size ∧ W = putRow U (Sort.ahead w n) blk off y ∧
    heapBuild ltInt (b - a) a k y = heapBuild ltInt (b - a) a ((b - a - 1) / 2 + 1) d)
  case atStart => exact ⟨by rw [half_start hab], Nat.le_refl _, d, 0, rfl, (putRow_self U w blk off d hH).symm, rfl⟩
  case round =>
    obtain ⟨rfl, hkk, y, n, hy, hW, hE⟩ := hrel
    have hK := row_holds hH hy hW
    have A : Aside (wr = putRow U (Sort.ahead w n) blk off y) := hW
    clear hW
    cases gk with
    | zero =>
      have hB : Hid (y = heapBuild ltInt (b - a) a ((b - a - 1) / 2 + 1) d) := hE
      clear hE hK hkk
      go_wp2
      go_loopg [10] (b - a) (fun k u W => u = .int .i64 ((k : Int) - 1) ∧ k ≤ b - a ∧ ∃ (x : Array Int) (m : Nat), x.size = d.size ∧ W = putRow U (Sort.ahead w m) blk off x ∧ heapPop ltInt a k x = heapPop ltInt a (b - a) y)
      case atStart => exact ⟨by rw [ec], Nat.le_refl _, y, n, hy, A.out, rfl⟩
      case round =>
        obtain ⟨rfl, hkk, x, m, hx, hV, hE2⟩ := hrel
        cases gk with
        | zero =>
          go_wp2
          go_end0
          refine ⟨rfl, m, ?_⟩
          have e : x = heapSort ltInt d a b := by rw [heapSort, ← hB.out, ← hE2]; rfl
          rw [← e]
        | succ k =>
          have hJ := row_holds hH hx hV
          have rd : ∀ t, t < d.size → wr.cell? ⟨blk, off + t, none⟩ = some (.int .u32 x[t]!) := fun t ht => (hJ t (by omega)).1
          have fz : ∀ t, t < d.size → wr.frozen? ⟨blk, off + t, none⟩ = false := fun t ht => (hJ t (by omega)).2
          have A2 : Aside (wr = putRow U (Sort.ahead w m) blk off x) := hV
          clear hV hJ
          rcases Nat.eq_zero_or_pos k with hk0 | hkp
          · subst hk0
            go_wp2_with fail
            go_region
            go_wp2_with fail
            rw [swap_world U (i := a) (j := a) (by omega) (by omega) A2.out rfl rfl]
            refine (sift_u blk off d.size cap (swp x a a) (by rw [size_swp]; exact hx) 0 0 a _ (holds_putRow U _ blk off d _ (holds_ahead U w (m + 1) blk off d hH) (by rw [size_swp]; exact hx)) (Nat.zero_le _) (by rw [size_swp]; omega) (by rw [size_swp]; omega)).mono ?_
            rintro e w1 ⟨rfl, q, hw1⟩
            go_wp2
            go_roundg 0
            case measure => omega
            case rel =>
              refine ⟨by simp, by omega, siftDown ltInt 0 a 0 (swp x a a), m + 1 + q, by rw [SZ.out, size_swp]; exact hx, ?_, hE2⟩
              first
                | rw [hw1, putRow_ahead_putRow U w (m + 1) q blk off _ _ (SZ.out _ _ _ _)]
                | rw [putRow_ahead_putRow U w (m + 1) q blk off _ _ (SZ.out _ _ _ _)]
          · go_wp2_with fail
            go_region
            go_wp2_with fail
            rw [swap_world U (i := a) (j := a + k) (by omega) (by omega) A2.out rfl rfl]
            refine (sift_u blk off d.size cap (swp x a (a + k)) (by rw [size_swp]; exact hx) 0 k a _ (holds_putRow U _ blk off d _ (holds_ahead U w (m + 1) blk off d hH) (by rw [size_swp]; exact hx)) (Nat.zero_le _) (by rw [size_swp]; omega) (by rw [size_swp]; omega)).mono ?_
            rintro e w1 ⟨rfl, q, hw1⟩
            go_wp2
            go_roundg k
            case measure => omega
            case rel =>
              refine ⟨by simp, by omega, siftDown ltInt k a 0 (swp x a (a + k)), m + 1 + q, by rw [SZ.out, size_swp]; exact hx, ?_, hE2⟩
              first
                | rw [hw1, putRow_ahead_putRow U w (m + 1) q blk off _ _ (SZ.out _ _ _ _)]
                | rw [putRow_ahead_putRow U w (m + 1) q blk off _ _ (SZ.out _ _ _ _)]
    | succ k =>
      have hcall := sift_u blk off d.size cap y hy k (b - a) a wr hK (by omega) (by omega) (by omega)
      rw [ec] at hcall
      go_wp2_with (go_at_call 103; refine hcall.mono ?_; rintro e w1 ⟨rfl, q, hw1⟩)
      go_roundg k
      case measure => omega
      case rel =>
        refine ⟨by simp, by omega, siftDown ltInt (b - a) a k y, n + q, by rw [SZ.out]; exact hy, ?_, hE⟩
        rw [A.out, putRow_ahead_putRow U w n q blk off y _ (SZ.out _ _ _ _)]
end Go.Proofs.YtcffpmicencfpabGreat
namespace Go.Proofs.YtcffpmicencfpabGreat
open Go.RowKit Go.Sort

abbrev Z : Int → Value := Value.int .i64

/-- The row of words stays while the counter turns, in another block. -/
theorem row_beside {w : World} {blk off sb so n t : Nat} {d : Array Int} (h : Holds U w blk off d) (hne : sb ≠ blk) : Holds U (putRow Z (Sort.ahead w n) sb so (one t)) blk off d := fun j hj =>
  ⟨by rw [cell?_putRow_other _ _ _ _ _ _ (Or.inl (Ne.symm hne))]; exact (h j hj).1, by rw [frozen?_putRow]; exact (h j hj).2⟩

set_option maxHeartbeats 1000000 in
theorem order2_u (d : Array Int) (len : Nat) (hlen : d.size = len) (blk off cap a b sb so s : Nat) (w : World) (hH : Holds U w blk off d) (ha : a < d.size) (hb : b < d.size) (hS : Holds Z w sb so (one s)) (hs : s < 4611686018427387904) :
    Calls Tryz.prog 108 #[.slice (some ⟨blk, off, none⟩) len cap, .int .i64 a, .int .i64 b, .pointer (some ⟨sb, so, none⟩)] w fun e w' =>
      e = .returned (.tuple #[.int .i64 (order2 ltInt d a b s).1, .int .i64 (order2 ltInt d a b s).2.1]) ∧ ∃ n, w' = putRow Z (Sort.ahead w n) sb so (one (order2 ltInt d a b s).2.2) := by
  subst hlen
  have ca := (hH a ha).1
  have cb := (hH b hb).1
  obtain ⟨cs, fs⟩ := one_cell hS
  have ea : d[a]! = d[a] := getElem!_pos d a ha
  have eb : d[b]! = d[b] := getElem!_pos d b hb
  go_enter Tryz.func108, Tryz.ntmps108
  go_wp2
  go_region_with (go_at_call 97; refine (less_u _ _ _).mono ?_; rintro e w' ⟨rfl, rfl⟩)
  all_goals (try go_wp2)
  all_goals first
    | (have hlt : ltInt d[b] d[a] = true := by assumption
       have e2 : order2 ltInt d a b s = (b, a, s + 1) := by simp [order2, ea, eb, hlt]
       go_ret2
       rw [e2]
       refine ⟨rfl, 1, ?_⟩
       rw [putRow_ahead, ← one_set hS (s + 1)]
       simp [drew_eq_ahead])
    | (have hlt : ltInt d[b] d[a] = false := by assumption
       have e2 : order2 ltInt d a b s = (a, b, s) := by simp [order2, ea, eb, hlt]
       go_ret2
       rw [e2]
       refine ⟨rfl, 1, ?_⟩
       rw [putRow_ahead, putRow_self _ _ _ _ _ hS]
       rfl)

set_option maxHeartbeats 1000000 in
set_option maxRecDepth 100000 in
theorem median_u (d : Array Int) (len : Nat) (hlen : d.size = len) (blk off cap a b c sb so s : Nat) (w : World) (hH : Holds U w blk off d) (ha : a < d.size) (hb : b < d.size) (hc : c < d.size) (hne : sb ≠ blk) (hS : Holds Z w sb so (one s)) (hs : s + 3 < 4611686018427387904) :
    Calls Tryz.prog 107 #[.slice (some ⟨blk, off, none⟩) len cap, .int .i64 a, .int .i64 b, .int .i64 c, .pointer (some ⟨sb, so, none⟩)] w fun e w' =>
      e = .returned (.int .i64 (median ltInt d a b c s).1) ∧ ∃ n, w' = putRow Z (Sort.ahead w n) sb so (one (median ltInt d a b c s).2) := by
  subst hlen
  have l1 := order2_lt d s ha hb
  have s1 := order2_swaps d a b s
  obtain ⟨r, hr⟩ : ∃ r, order2 ltInt d a b s = r := ⟨_, rfl⟩
  have c1 := order2_u d d.size rfl blk off cap a b sb so s w hH ha hb hS (by omega)
  rw [hr] at l1 s1 c1
  have l2 := order2_lt d r.2.2 l1.2 hc
  have s2 := order2_swaps d r.2.1 c r.2.2
  have c2 : ∀ n1, Calls Tryz.prog 108 #[.slice (some ⟨blk, off, none⟩) d.size cap, .int .i64 (r.2.1 : Int), .int .i64 c, .pointer (some ⟨sb, so, none⟩)] (putRow Z (Sort.ahead w n1) sb so (one r.2.2)) _ :=
    fun n1 => order2_u d d.size rfl blk off cap r.2.1 c sb so r.2.2 _ (row_beside hH hne) l1.2 hc (holds_one hS) (by omega)
  obtain ⟨q, hq⟩ : ∃ q, order2 ltInt d r.2.1 c r.2.2 = q := ⟨_, rfl⟩
  rw [hq] at l2 s2 c2
  have c3 := fun n1 n2 => order2_u d d.size rfl blk off cap r.1 q.1 sb so q.2.2 (putRow Z (Sort.ahead (putRow Z (Sort.ahead w n1) sb so (one r.2.2)) n2) sb so (one q.2.2)) (row_beside (row_beside hH hne) hne) l1.1 l2.1 (holds_one (holds_one hS)) (by omega)
  have em : median ltInt d a b c s = ((order2 ltInt d r.1 q.1 q.2.2).2.1, (order2 ltInt d r.1 q.1 q.2.2).2.2) := by simp only [median, hr, hq]
  have EM := hide em
  have C1 := hide c1
  have C2 := hide c2
  have C3 := hide c3
  clear em c1 c2 c3 hr hq
  go_enter Tryz.func107, Tryz.ntmps107
  go_wp2_with fail
  refine C1.out.mono ?_
  rintro e w' ⟨rfl, n1, rfl⟩
  go_wp2_with fail
  refine (C2.out n1).mono ?_
  rintro e w' ⟨rfl, n2, rfl⟩
  go_wp2_with fail
  refine (C3.out n1 n2).mono ?_
  rintro e w' ⟨rfl, n3, rfl⟩
  go_wp2_with fail
  go_ret
  rw [EM.out]
  exact ⟨rfl, n1 + (n2 + n3), by rw [one_one, one_one]⟩

set_option maxHeartbeats 1000000 in
set_option maxRecDepth 100000 in
theorem medianAdj_u (d : Array Int) (len : Nat) (hlen : d.size = len) (blk off cap a sb so s : Nat) (w : World) (hH : Holds U w blk off d) (ha0 : 1 ≤ a) (ha : a + 1 < d.size) (hsz : d.size < 4611686018427387904) (hne : sb ≠ blk) (hS : Holds Z w sb so (one s)) (hs : s + 3 < 4611686018427387904) :
    Calls Tryz.prog 106 #[.slice (some ⟨blk, off, none⟩) len cap, .int .i64 a, .pointer (some ⟨sb, so, none⟩)] w fun e w' =>
      e = .returned (.int .i64 (medianAdjacent ltInt d a s).1) ∧ ∃ n, w' = putRow Z (Sort.ahead w n) sb so (one (medianAdjacent ltInt d a s).2) := by
  subst hlen
  have c := median_u d d.size rfl blk off cap (a - 1) a (a + 1) sb so s w hH (by omega) (by omega) ha hne hS hs
  rw [show ((a - 1 : Nat) : Int) = (a : Int) - 1 by omega, show ((a + 1 : Nat) : Int) = (a : Int) + 1 by omega] at c
  have C := hide c
  clear c
  go_enter Tryz.func106, Tryz.ntmps106
  go_wp2_with fail
  refine C.out.mono ?_
  rintro e w' ⟨rfl, n1, rfl⟩
  go_wp2_with fail
  go_ret
  exact ⟨rfl, n1, rfl⟩
end Go.Proofs.YtcffpmicencfpabGreat
namespace Go.Proofs.YtcffpmicencfpabGreat
open Go.RowKit Go.Sort

theorem count_grow (w : World) (T N S : Nat) : ∃ os, putRow Z (Sort.ahead (w.alloc (.cells #[.int .i64 0] T)) N) w.heap.size 0 (one S) = grow (Sort.ahead w N) os := by
  rw [alloc_eq_grow, ahead_grow]
  obtain ⟨os, _, h⟩ := putRow_grow_new Z (Sort.ahead w N) #[.cells #[.int .i64 0] T] w.heap.size 0 (one S) (Nat.le_refl _)
  exact ⟨os, h⟩

/-- The worlds between the calls: N draws made, S swaps counted. -/
theorem pivot_world (blk off cap : Nat) (d : Array Int) (w : World) (hH : Holds U w blk off d) (hblk : blk < w.heap.size) (hsz : d.size < 4611686018427387904) :
    ∃ Wc : Nat → Nat → World, w.alloc (.cells #[.int .i64 0] 3) = Wc 0 0 ∧ (∀ N S : Nat, (Wc N S).cell? ⟨w.heap.size, 0, none⟩ = some (.int .i64 (S : Int))) ∧ (∀ N S : Nat, ∃ os, Wc N S = grow (Sort.ahead w N) os) ∧
      (∀ x s N : Nat, 1 ≤ x → x + 1 < d.size → s + 3 < 4611686018427387904 → Calls Tryz.prog 106 #[.slice (some ⟨blk, off, none⟩) d.size cap, .int .i64 (x : Int), .pointer (some ⟨w.heap.size, 0, none⟩)] (Wc N s) fun e w' => e = .returned (.int .i64 ((medianAdjacent ltInt d x s).1 : Int)) ∧ ∃ N', w' = Wc N' (medianAdjacent ltInt d x s).2) ∧
      (∀ x y z s N : Nat, x < d.size → y < d.size → z < d.size → s + 3 < 4611686018427387904 → Calls Tryz.prog 107 #[.slice (some ⟨blk, off, none⟩) d.size cap, .int .i64 (x : Int), .int .i64 (y : Int), .int .i64 (z : Int), .pointer (some ⟨w.heap.size, 0, none⟩)] (Wc N s) fun e w' => e = .returned (.int .i64 ((median ltInt d x y z s).1 : Int)) ∧ ∃ N', w' = Wc N' (median ltInt d x y z s).2) := by
  have hne : w.heap.size ≠ blk := by omega
  have hH0 : Holds U (w.alloc (.cells #[.int .i64 0] 3)) blk off d := by rw [alloc_eq_grow]; exact holds_grow _ _ _ _ _ _ hblk hH
  have hS0 : Holds Z (w.alloc (.cells #[.int .i64 0] 3)) w.heap.size 0 (one 0) := fun j hj => by
    obtain rfl : j = 0 := by simpa using hj
    simp
  refine ⟨fun N S => putRow Z (Sort.ahead (w.alloc (.cells #[.int .i64 0] 3)) N) w.heap.size 0 (one S), (putRow_self _ _ _ _ _ hS0).symm, fun N S => (one_cell (holds_one (n := N) (t := S) hS0)).1, fun N S => count_grow w _ N S, ?_, ?_⟩
  · intro x s N h1 h2 hs
    refine (medianAdj_u d _ rfl blk off cap x w.heap.size 0 s _ (row_beside hH0 hne) h1 h2 hsz hne (holds_one hS0) hs).mono ?_
    rintro e w' ⟨he, n, hw⟩
    exact ⟨he, N + n, by rw [hw, one_one]⟩
  · intro x y z s N h1 h2 h3 hs
    refine (median_u d _ rfl blk off cap x y z w.heap.size 0 s _ (row_beside hH0 hne) h1 h2 h3 hne (holds_one hS0) hs).mono ?_
    rintro e w' ⟨he, n, hw⟩
    exact ⟨he, N + n, by rw [hw, one_one]⟩

set_option maxRecDepth 100000 in
set_option maxHeartbeats 2000000 in
theorem pivot_u (blk off cap a b : Nat) (d : Array Int) (w : World) (hH : Holds U w blk off d) (hblk : blk < w.heap.size) (hab : a < b) (hb : b ≤ d.size) (hsz : d.size < 4611686018427387904) :
    Calls Tryz.prog 94 #[.slice (some ⟨blk, off, none⟩) d.size cap, .int .i64 a, .int .i64 b] w fun e w' => e = .returned (.tuple #[.int .i64 (choosePivot ltInt d a b).1, .int .i64 (hintCode (choosePivot ltInt d a b).2)]) ∧ ∃ n os, w' = grow (Sort.ahead w n) os := by
  obtain ⟨Wc, hW0, cS, hG, MA, MD⟩ := pivot_world blk off cap d w hH hblk hsz
  clear hH
  rw [choosePivot_eq]
  obtain ⟨I, hI⟩ : ∃ I : Nat, I = a + (b - a) / 4 * 1 := ⟨_, rfl⟩
  obtain ⟨J, hJ⟩ : ∃ J : Nat, J = a + (b - a) / 4 * 2 := ⟨_, rfl⟩
  obtain ⟨K, hK⟩ : ∃ K : Nat, K = a + (b - a) / 4 * 3 := ⟨_, rfl⟩
  have eI : ((a : Int) + ((b : Int) - (a : Int)) / 4) = (I : Int) := by omega
  have eJ : ((a : Int) + ((b : Int) - (a : Int)) / 4 * 2) = (J : Int) := by omega
  have eK : ((a : Int) + ((b : Int) - (a : Int)) / 4 * 3) = (K : Int) := by omega
  by_cases h8 : b - a ≥ 8
  · by_cases h50 : b - a ≥ 50
    · obtain ⟨i1, s1, h1⟩ : ∃ i1 s1, medianAdjacent ltInt d I 0 = (i1, s1) := ⟨_, _, rfl⟩
      obtain ⟨j1, s2, h2⟩ : ∃ j1 s2, medianAdjacent ltInt d J s1 = (j1, s2) := ⟨_, _, rfl⟩
      obtain ⟨k1, s3, h3⟩ : ∃ k1 s3, medianAdjacent ltInt d K s2 = (k1, s3) := ⟨_, _, rfl⟩
      obtain ⟨p, s, h4⟩ : ∃ p s, median ltInt d i1 j1 k1 s3 = (p, s) := ⟨_, _, rfl⟩
      have hraw : rawPivot ltInt d a b = (p, s) := by simp only [rawPivot, if_pos h8, if_pos h50, ← hI, ← hJ, ← hK, h1, h2, h3, h4]
      have m1 := medianAdjacent_mem ltInt d I 0; rw [h1] at m1
      have m2 := medianAdjacent_mem ltInt d J s1; rw [h2] at m2
      have m3 := medianAdjacent_mem ltInt d K s2; rw [h3] at m3
      have n1 := medianAdjacent_count ltInt d I 0; rw [h1] at n1
      have n2 := medianAdjacent_count ltInt d J s1; rw [h2] at n2
      have n3 := medianAdjacent_count ltInt d K s2; rw [h3] at n3
      simp only [] at m1 m2 m3 n1 n2 n3
      have c1 := MA I 0 0 (by omega) (by omega) (by omega)
      have c2 := fun N => MA J s1 N (by omega) (by omega) (by omega)
      have c3 := fun N => MA K s2 N (by omega) (by omega) (by omega)
      have c4 := fun N => MD i1 j1 k1 s3 N (by omega) (by omega) (by omega) (by omega)
      rw [h1] at c1
      rw [h2] at c2
      rw [h3] at c3
      rw [h4] at c4
      have C1 := hide c1
      have C2 := hide c2
      have C3 := hide c3
      have C4 := hide c4
      rw [hraw]
      obtain ⟨hc, hhc⟩ : ∃ hc : Int, hc = hintCode (hintOf s) := ⟨_, rfl⟩
      have HH : Hid ((s = 0 → hc = 1) ∧ (s = 12 → hc = 2) ∧ (s ≠ 0 → s ≠ 12 → hc = 0)) := ⟨fun h => by rw [hhc, h]; rfl, fun h => by rw [hhc, h]; rfl, fun h1 h2 => by rw [hhc]; unfold hintOf; rw [if_neg h1, if_neg h2]; rfl⟩
      show Calls Tryz.prog 94 _ w fun e w' => e = .returned (.tuple #[.int .i64 (p : Int), .int .i64 (hintCode (hintOf s))]) ∧ ∃ n os, w' = grow (Sort.ahead w n) os
      rw [← hhc]
      clear hhc hraw
      clear c1 c2 c3 c4 h1 h2 h3 h4 MA MD hI hJ hK m1 m2 m3
      go_enter Tryz.func94, Tryz.ntmps94
      go_wp2_with fail
      refine C1.out.mono ?_
      rintro e w' ⟨rfl, N1, rfl⟩
      go_wp2_with fail
      refine (C2.out _).mono ?_
      rintro e w' ⟨rfl, N2, rfl⟩
      go_wp2_with fail
      refine (C3.out _).mono ?_
      rintro e w' ⟨rfl, N3, rfl⟩
      go_wp2_with fail
      refine (C4.out _).mono ?_
      rintro e w' ⟨rfl, N4, rfl⟩
      go_wp2
      all_goals
        go_ret2
        refine ⟨?_, _, hG _ _⟩
        first
          | (have e0 : (s : Int) = 0 := of_beq_int (by assumption)
             rw [HH.out.1 (by omega)]; rfl)
          | (have e1 : (s : Int) = 12 := of_beq_int (by assumption)
             rw [HH.out.2.1 (by omega)]; rfl)
          | (have e0 : (s : Int) ≠ 0 := of_bne_int (by assumption)
             have e1 : (s : Int) ≠ 12 := of_bne_int (by assumption)
             rw [HH.out.2.2 (by omega) (by omega)]; rfl)
          | (rw [HH.out.1 (by omega)]; rfl)
    · obtain ⟨p, s, h4⟩ : ∃ p s, median ltInt d I J K 0 = (p, s) := ⟨_, _, rfl⟩
      have hraw : rawPivot ltInt d a b = (p, s) := by simp only [rawPivot, if_pos h8, if_neg h50, ← hI, ← hJ, ← hK, h4]
      have c4 := MD I J K 0 0 (by omega) (by omega) (by omega) (by omega)
      rw [h4] at c4
      have C4 := hide c4
      rw [hraw]
      obtain ⟨hc, hhc⟩ : ∃ hc : Int, hc = hintCode (hintOf s) := ⟨_, rfl⟩
      have HH : Hid ((s = 0 → hc = 1) ∧ (s = 12 → hc = 2) ∧ (s ≠ 0 → s ≠ 12 → hc = 0)) := ⟨fun h => by rw [hhc, h]; rfl, fun h => by rw [hhc, h]; rfl, fun h1 h2 => by rw [hhc]; unfold hintOf; rw [if_neg h1, if_neg h2]; rfl⟩
      show Calls Tryz.prog 94 _ w fun e w' => e = .returned (.tuple #[.int .i64 (p : Int), .int .i64 (hintCode (hintOf s))]) ∧ ∃ n os, w' = grow (Sort.ahead w n) os
      rw [← hhc]
      clear hhc hraw
      clear c4 h4 MA MD hI hJ hK
      go_enter Tryz.func94, Tryz.ntmps94
      go_wp2_with fail
      refine C4.out.mono ?_
      rintro e w' ⟨rfl, N4, rfl⟩
      go_wp2
      all_goals
        go_ret2
        refine ⟨?_, _, hG _ _⟩
        first
          | (have e0 : (s : Int) = 0 := of_beq_int (by assumption)
             rw [HH.out.1 (by omega)]; rfl)
          | (have e1 : (s : Int) = 12 := of_beq_int (by assumption)
             rw [HH.out.2.1 (by omega)]; rfl)
          | (have e0 : (s : Int) ≠ 0 := of_bne_int (by assumption)
             have e1 : (s : Int) ≠ 12 := of_bne_int (by assumption)
             rw [HH.out.2.2 (by omega) (by omega)]; rfl)
          | (rw [HH.out.1 (by omega)]; rfl)
  · obtain ⟨p, hp⟩ : ∃ p : Nat, p = J := ⟨_, rfl⟩
    obtain ⟨s, hs⟩ : ∃ s : Nat, s = 0 := ⟨_, rfl⟩
    have hraw : rawPivot ltInt d a b = (p, s) := by simp only [rawPivot, if_neg h8, ← hJ, hp, hs]
    rw [hraw]
    obtain ⟨hc, hhc⟩ : ∃ hc : Int, hc = hintCode (hintOf s) := ⟨_, rfl⟩
    have HH : Hid ((s = 0 → hc = 1) ∧ (s = 12 → hc = 2) ∧ (s ≠ 0 → s ≠ 12 → hc = 0)) := ⟨fun h => by rw [hhc, h]; rfl, fun h => by rw [hhc, h]; rfl, fun h1 h2 => by rw [hhc]; unfold hintOf; rw [if_neg h1, if_neg h2]; rfl⟩
    show Calls Tryz.prog 94 _ w fun e w' => e = .returned (.tuple #[.int .i64 (p : Int), .int .i64 (hintCode (hintOf s))]) ∧ ∃ n os, w' = grow (Sort.ahead w n) os
    rw [← hhc]
    clear hhc hraw
    subst hp
    clear MA MD hI hJ hK
    have hW0' : w.alloc (.cells #[.int .i64 0] 3) = Wc 0 s := by rw [hs]; exact hW0
    clear hW0
    go_enter Tryz.func94, Tryz.ntmps94
    go_wp2
    all_goals
      go_ret2
      refine ⟨?_, _, hG _ _⟩
      first
        | (have e0 : (s : Int) = 0 := of_beq_int (by assumption)
           rw [HH.out.1 (by omega)]; rfl)
        | (have e1 : (s : Int) = 12 := of_beq_int (by assumption)
           rw [HH.out.2.1 (by omega)]; rfl)
        | (have e0 : (s : Int) ≠ 0 := of_bne_int (by assumption)
           have e1 : (s : Int) ≠ 12 := of_bne_int (by assumption)
           rw [HH.out.2.2 (by omega) (by omega)]; rfl)
        | (rw [HH.out.1 (by omega)]; rfl)
end Go.Proofs.YtcffpmicencfpabGreat
namespace Go.Proofs
open Go.Shelf
def Tryz.lays125_ren : Go.Shelf.Ren := ⟨fun | 125 => 82 | 128 => 100 | 129 => 101 | n => n, fun | 46 => 23 | 3 => 3 | 51 => 22 | 53 => 141 | 4 => 4 | 5 => 5 | 9 => 9 | n => n, fun | n => n⟩
theorem Tryz.lays125 : Go.Proofs.Lays.n125 Tryz.prog Tryz.lays125_ren := {
  mixed := by kernel_rfl
  f125 := Tryz.func82.trans (congrArg some (by kernel_rfl))
  f128 := Tryz.func100.trans (congrArg some (by kernel_rfl))
  f129 := Tryz.func101.trans (congrArg some (by kernel_rfl))
  t3 := Tryz.underlying3
  a3 := Tryz.isAgg3
  z3 := Tryz.sizeOf3
  v3 := Tryz.zeroValue3
  t4 := Tryz.underlying4
  a4 := Tryz.isAgg4
  z4 := Tryz.sizeOf4
  v4 := Tryz.zeroValue4
  t5 := Tryz.underlying5
  a5 := Tryz.isAgg5
  z5 := Tryz.sizeOf5
  v5 := Tryz.zeroValue5
  t9 := Tryz.underlying9
  a9 := Tryz.isAgg9
  z9 := Tryz.sizeOf9
  v9 := Tryz.zeroValue9
  t46 := Tryz.underlying23
  a46 := Tryz.isAgg23
  z46 := Tryz.sizeOf23
  v46 := Tryz.zeroValue23
  t51 := Tryz.underlying22
  a51 := Tryz.isAgg22
  z51 := Tryz.sizeOf22
  v51 := Tryz.zeroValue22
  t53 := Tryz.underlying141
  a53 := Tryz.isAgg141
  z53 := Tryz.sizeOf141
  v53 := Tryz.zeroValue141 }
theorem Tryz.bits_Len (x : Int) (w : World) (h0 : 0 ≤ x) (h1 : x ≤ 18446744073709551615) :
    Calls Tryz.prog 82 #[.int .u64 x] w fun e w' => e = .returned (.int .i64 (Lib.bitLen x.toNat)) ∧ w' = w := Any.bits_Len Tryz.lays125 x w h0 h1
end Go.Proofs
