/-
  The library's sort at words of 32 bits: a range that is nearly in order.
-/
import Derived.Test.YtkfomhllaogplaaSA
import Derived.Sort.WalkA6
namespace Go.Proofs.Ytkfomhllaogplaa
open Go.RowKit Go.Sort

set_option maxHeartbeats 3200000 in
set_option maxRecDepth 100000 in
theorem partial_u (blk off cap a b : Nat) (d : Array Int) (w : World) (hH : Holds U w blk off d) (hab : a < b) (hb : b ≤ d.size) (hsz : d.size < 4611686018427387904) :
    Calls Try.prog 75 #[.slice (some ⟨blk, off, none⟩) d.size cap, .int .i64 a, .int .i64 b] w fun e w' =>
      e = .returned (.bool (Sort.partialInsertionSort ltInt d a b).2) ∧ ∃ n, w' = putRow U (Sort.ahead w n) blk off (Sort.partialInsertionSort ltInt d a b).1 := by
  have HH : Hid (Holds U w blk off d) := hH
  have HST : Hid (w = putRow U (Sort.ahead w 0) blk off d) := (putRow_self _ _ _ _ _ hH).symm
  clear hH
  go_enter Try.func75, Try.ntmps75
  go_wp2
  go_loopw [7, 8] (fun u v W => ∃ (i s n : Nat) (y : Array Int), u = .int .i64 i ∧ v = .int .i64 s ∧ s ≤ 5 ∧ a < i ∧ i ≤ b ∧ y.size = d.size ∧ W = putRow U (Sort.ahead w n) blk off y ∧ partialIns ltInt a b (5 - s) i y = partialIns ltInt a b 5 (a + 1) d) (fun _ v _ => 5 - (Go.Proofs.intOf v).toNat)
  case atStart => exact ⟨a + 1, 0, 0, d, by go_num, rfl, by omega, by omega, by omega, rfl, HST.out, rfl⟩
  case round =>
    obtain ⟨i, s, n, y, rfl, rfl, hs5, hai, hib, hy, hwr, hO⟩ := hrel
    have HO := hide hO
    clear hO
    by_cases hs : s < 5
    · go_wp2
      go_loopw [7] (fun u W => ∃ (k m : Nat), u = .int .i64 k ∧ i ≤ k ∧ k ≤ b ∧ W = putRow U (Sort.ahead w m) blk off y ∧ scanSorted ltInt y b k = scanSorted ltInt y b i) (fun u _ => b - (Go.Proofs.intOf u).toNat)
      case atStart => exact ⟨i, n, rfl, Nat.le_refl _, hib, rfl, rfl⟩
      case round =>
        obtain ⟨k, m, rfl, hik, hkb, hw1, hS⟩ := hrel
        have HS := hide hS
        clear hS
        obtain ⟨g, hg⟩ : ∃ g : Nat → Int, ∀ t, g t = y[t]! := ⟨fun t => y[t]!, fun _ => rfl⟩
        have rd : ∀ t, t < d.size → wr.cell? ⟨blk, off + t, none⟩ = some (.int .u32 (g t)) := fun t ht => by
          rw [hw1, hg]; exact cell?_putRow _ _ _ _ d y (holds_ahead _ _ _ _ _ _ HH.out) hy t (by omega)
        have fz : ∀ t, t < d.size → wr.frozen? ⟨blk, off + t, none⟩ = false := fun t ht => by
          rw [hw1, frozen?_putRow]; exact ((holds_ahead _ _ m _ _ _ HH.out) t ht).2
        have HW := hide hw1
        have HG : Hid (∀ t, g t = y[t]!) := hg
        clear hw1 hg
        by_cases hk : k < b
        · go_wp2
          go_quiet (first | (go_at_call 76; refine Calls.quiet_of_same (less_u _ _ _)))
          rcases hn : (!ltInt (g k) (g (k - 1))) with _ | _
          · have hl : ltInt (g k) (g (k - 1)) = true := by simpa using hn
            have HK : Hid (scanSorted ltInt y b i = k) := by
              show scanSorted ltInt y b i = k
              rw [← HS.out, scanSorted_stop ltInt y b k (Or.inr (by rw [← HG.out, ← HG.out]; exact hl))]
            have hke : ((k : Int) == (b : Int)) = false := by simp; omega
            by_cases h50 : b - a < 50
            · go_wp2
              have hv : Sort.partialInsertionSort ltInt d a b = (y, false) := by
                unfold Sort.partialInsertionSort
                rw [← HO.out, pi_short ltInt a b s i y hs (by rw [HK.out]; omega) h50]
              rw [hv]
              go_ret
              exact ⟨rfl, m + nq, by rw [HW.out]; exact putRow_drewN _ _ _ _ _ _ _⟩
            · have hsw : ((wr.drewN (nq + 1)).setCell ⟨blk, off + k, none⟩ (.int .u32 (g (k - 1)))).setCell ⟨blk, off + (k - 1), none⟩ (.int .u32 (g k)) = putRow U (Sort.ahead w (m + (nq + 1))) blk off (swp y k (k - 1)) := by
                rw [HW.out, HG.out, HG.out]
                exact swap_worldA _ w m (nq + 1) blk off y k (k - 1) (by omega) (by omega)
              have hs1 : (swp y k (k - 1)).size = d.size := by rw [size_swp]; exact hy
              go_wp2
              go_region
              by_cases h1 : 2 ≤ k - a
              · by_cases h2 : 2 ≤ b - k
                · go_wp2
                  go_loopw [9] (fun u W => ∃ (j m2 : Nat) (x : Array Int), u = .int .i64 j ∧ j ≤ k - 1 ∧ x.size = d.size ∧ W = putRow U (Sort.ahead w m2) blk off x ∧ shiftDown ltInt j x = shiftDown ltInt (k - 1) (swp y k (k - 1))) (fun u _ => (Go.Proofs.intOf u).toNat)
                  case atStart => exact ⟨k - 1, _, (swp y k (k - 1)), by congr 1; omega, Nat.le_refl _, hs1, rfl, rfl⟩
                  case round =>
                    clear rd fz HW HG hsw
                    obtain ⟨j, m2, x, rfl, hjk, hx, hw2, hN⟩ := hrel
                    have HN := hide hN
                    clear hN
                    obtain ⟨g, hg⟩ : ∃ g : Nat → Int, ∀ t, g t = x[t]! := ⟨fun t => x[t]!, fun _ => rfl⟩
                    have rd : ∀ t, t < d.size → wr.cell? ⟨blk, off + t, none⟩ = some (.int .u32 (g t)) := fun t ht => by
                      rw [hw2, hg]; exact cell?_putRow _ _ _ _ d x (holds_ahead _ _ _ _ _ _ HH.out) hx t (by omega)
                    have fz : ∀ t, t < d.size → wr.frozen? ⟨blk, off + t, none⟩ = false := fun t ht => by
                      rw [hw2, frozen?_putRow]; exact ((holds_ahead _ _ m2 _ _ _ HH.out) t ht).2
                    have HW := hide hw2
                    have HG : Hid (∀ t, g t = x[t]!) := hg
                    clear hw2 hg
                    by_cases hj : 1 ≤ j
                    · go_wp2
                      go_quiet (first | (go_at_call 76; refine Calls.quiet_of_same (less_u _ _ _)))
                      go_wp2
                      · have hl : ltInt (g j) (g (j - 1)) = false := by
                          have h : (!ltInt (g j) (g (j - 1))) = true := by assumption
                          simpa using h
                        have HD : Hid (fixDown ltInt a k (swp y k (k - 1)) = x) := by
                          show fixDown ltInt a k (swp y k (k - 1)) = x
                          unfold fixDown; rw [if_pos (by omega), ← HN.out, shiftDown_stop ltInt j x (Or.inr (by rw [← HG.out, ← HG.out]; exact hl))]
                        go_loopw [10] (fun u W => ∃ (j m3 : Nat) (z : Array Int), u = .int .i64 j ∧ k + 1 ≤ j ∧ j ≤ b ∧ z.size = d.size ∧ W = putRow U (Sort.ahead w m3) blk off z ∧ shiftUp ltInt b j z = shiftUp ltInt b (k + 1) x) (fun u _ => b - (Go.Proofs.intOf u).toNat)
                        case atStart => exact ⟨k + 1, _, x, by go_num, Nat.le_refl _, by omega, hx, (by first | rfl | exact HW.out | (rw [HW.out]; exact putRow_drewN _ _ _ _ _ _ _)), rfl⟩
                        case round =>
                          obtain ⟨j, m3, z, rfl, hkj, hjb, hz, hw3, hU⟩ := hrel
                          have HU := hide hU
                          clear hU
                          obtain ⟨g, hg⟩ : ∃ g : Nat → Int, ∀ t, g t = z[t]! := ⟨fun t => z[t]!, fun _ => rfl⟩
                          have rd : ∀ t, t < d.size → wr.cell? ⟨blk, off + t, none⟩ = some (.int .u32 (g t)) := fun t ht => by
                            rw [hw3, hg]; exact cell?_putRow _ _ _ _ d z (holds_ahead _ _ _ _ _ _ HH.out) hz t (by omega)
                          have fz : ∀ t, t < d.size → wr.frozen? ⟨blk, off + t, none⟩ = false := fun t ht => by
                            rw [hw3, frozen?_putRow]; exact ((holds_ahead _ _ m3 _ _ _ HH.out) t ht).2
                          have HW := hide hw3
                          have HG : Hid (∀ t, g t = z[t]!) := hg
                          clear hw3 hg
                          by_cases hj : j < b
                          · go_wp2
                            go_quiet (first | (go_at_call 76; refine Calls.quiet_of_same (less_u _ _ _)))
                            go_wp2
                            · have hl : ltInt (g j) (g (j - 1)) = false := by
                                have h : (!ltInt (g j) (g (j - 1))) = true := by assumption
                                simpa using h
                              go_roundw
                              case rel =>
                                refine ⟨k, s + 1, _, z, rfl, by go_num, by omega, by omega, by omega, hz, (by first | rfl | exact HW.out | (rw [HW.out]; exact putRow_drewN _ _ _ _ _ _ _)), ?_⟩
                                rw [← HO.out, pi_go ltInt a b s i k y hs HK.out (by omega) (by omega), HD.out, show fixUp ltInt b k x = z from by unfold fixUp; rw [if_pos (by omega), ← HU.out, shiftUp_stop ltInt b j z (Or.inr (by rw [← HG.out, ← HG.out]; exact hl))]]
                              case measure => simp [Go.Proofs.intOf]; omega
                            · have hl : ltInt (g j) (g (j - 1)) = true := by
                                have h : (!ltInt (g j) (g (j - 1))) = false := by assumption
                                simpa using h
                              go_region
                              all_goals go_wp2
                              go_roundw
                              case rel =>
                                refine ⟨j + 1, m3 + (nq + 1), swp z j (j - 1), by go_num, by omega, by omega, by rw [size_swp]; exact hz, ?_, ?_⟩
                                · rw [HW.out, HG.out, HG.out]
                                  exact swap_worldA _ w m3 (nq + 1) blk off z j (j - 1) (by omega) (by omega)
                                · rw [← HU.out, shiftUp_go ltInt b j z (by omega) (by rw [← HG.out, ← HG.out]; exact hl)]
                              case measure => simp [Go.Proofs.intOf]; omega
                          · go_wp2
                            go_roundw
                            case rel =>
                              refine ⟨k, s + 1, _, z, rfl, by go_num, by omega, by omega, by omega, hz, (by first | rfl | exact HW.out | (rw [HW.out]; exact putRow_drewN _ _ _ _ _ _ _)), ?_⟩
                              rw [← HO.out, pi_go ltInt a b s i k y hs HK.out (by omega) (by omega), HD.out, show fixUp ltInt b k x = z from by unfold fixUp; rw [if_pos (by omega), ← HU.out, shiftUp_stop ltInt b j z (Or.inl (by omega))]]
                            case measure => simp [Go.Proofs.intOf]; omega
                      · have hl : ltInt (g j) (g (j - 1)) = true := by
                          have h : (!ltInt (g j) (g (j - 1))) = false := by assumption
                          simpa using h
                        go_region
                        all_goals go_wp2
                        go_roundw
                        case rel =>
                          refine ⟨j - 1, m2 + (nq + 1), swp x j (j - 1), by congr 1; omega, by omega, by rw [size_swp]; exact hx, ?_, ?_⟩
                          · rw [HW.out, HG.out, HG.out]
                            exact swap_worldA _ w m2 (nq + 1) blk off x j (j - 1) (by omega) (by omega)
                          · rw [← HN.out, shiftDown_go ltInt j x (by omega) (by rw [← HG.out, ← HG.out]; exact hl)]
                        case measure => simp [Go.Proofs.intOf]; omega
                    · go_wp2
                      have HD : Hid (fixDown ltInt a k (swp y k (k - 1)) = x) := by
                        show fixDown ltInt a k (swp y k (k - 1)) = x
                        unfold fixDown; rw [if_pos (by omega), ← HN.out, shiftDown_stop ltInt j x (Or.inl (by omega))]
                      go_loopw [10] (fun u W => ∃ (j m3 : Nat) (z : Array Int), u = .int .i64 j ∧ k + 1 ≤ j ∧ j ≤ b ∧ z.size = d.size ∧ W = putRow U (Sort.ahead w m3) blk off z ∧ shiftUp ltInt b j z = shiftUp ltInt b (k + 1) x) (fun u _ => b - (Go.Proofs.intOf u).toNat)
                      case atStart => exact ⟨k + 1, _, x, by go_num, Nat.le_refl _, by omega, hx, (by first | rfl | exact HW.out | (rw [HW.out]; exact putRow_drewN _ _ _ _ _ _ _)), rfl⟩
                      case round =>
                        obtain ⟨j, m3, z, rfl, hkj, hjb, hz, hw3, hU⟩ := hrel
                        have HU := hide hU
                        clear hU
                        obtain ⟨g, hg⟩ : ∃ g : Nat → Int, ∀ t, g t = z[t]! := ⟨fun t => z[t]!, fun _ => rfl⟩
                        have rd : ∀ t, t < d.size → wr.cell? ⟨blk, off + t, none⟩ = some (.int .u32 (g t)) := fun t ht => by
                          rw [hw3, hg]; exact cell?_putRow _ _ _ _ d z (holds_ahead _ _ _ _ _ _ HH.out) hz t (by omega)
                        have fz : ∀ t, t < d.size → wr.frozen? ⟨blk, off + t, none⟩ = false := fun t ht => by
                          rw [hw3, frozen?_putRow]; exact ((holds_ahead _ _ m3 _ _ _ HH.out) t ht).2
                        have HW := hide hw3
                        have HG : Hid (∀ t, g t = z[t]!) := hg
                        clear hw3 hg
                        by_cases hj : j < b
                        · go_wp2
                          go_quiet (first | (go_at_call 76; refine Calls.quiet_of_same (less_u _ _ _)))
                          go_wp2
                          · have hl : ltInt (g j) (g (j - 1)) = false := by
                              have h : (!ltInt (g j) (g (j - 1))) = true := by assumption
                              simpa using h
                            go_roundw
                            case rel =>
                              refine ⟨k, s + 1, _, z, rfl, by go_num, by omega, by omega, by omega, hz, (by first | rfl | exact HW.out | (rw [HW.out]; exact putRow_drewN _ _ _ _ _ _ _)), ?_⟩
                              rw [← HO.out, pi_go ltInt a b s i k y hs HK.out (by omega) (by omega), HD.out, show fixUp ltInt b k x = z from by unfold fixUp; rw [if_pos (by omega), ← HU.out, shiftUp_stop ltInt b j z (Or.inr (by rw [← HG.out, ← HG.out]; exact hl))]]
                            case measure => simp [Go.Proofs.intOf]; omega
                          · have hl : ltInt (g j) (g (j - 1)) = true := by
                              have h : (!ltInt (g j) (g (j - 1))) = false := by assumption
                              simpa using h
                            go_region
                            all_goals go_wp2
                            go_roundw
                            case rel =>
                              refine ⟨j + 1, m3 + (nq + 1), swp z j (j - 1), by go_num, by omega, by omega, by rw [size_swp]; exact hz, ?_, ?_⟩
                              · rw [HW.out, HG.out, HG.out]
                                exact swap_worldA _ w m3 (nq + 1) blk off z j (j - 1) (by omega) (by omega)
                              · rw [← HU.out, shiftUp_go ltInt b j z (by omega) (by rw [← HG.out, ← HG.out]; exact hl)]
                            case measure => simp [Go.Proofs.intOf]; omega
                        · go_wp2
                          go_roundw
                          case rel =>
                            refine ⟨k, s + 1, _, z, rfl, by go_num, by omega, by omega, by omega, hz, (by first | rfl | exact HW.out | (rw [HW.out]; exact putRow_drewN _ _ _ _ _ _ _)), ?_⟩
                            rw [← HO.out, pi_go ltInt a b s i k y hs HK.out (by omega) (by omega), HD.out, show fixUp ltInt b k x = z from by unfold fixUp; rw [if_pos (by omega), ← HU.out, shiftUp_stop ltInt b j z (Or.inl (by omega))]]
                          case measure => simp [Go.Proofs.intOf]; omega
                · go_wp2
                  go_loopw [9] (fun u W => ∃ (j m2 : Nat) (x : Array Int), u = .int .i64 j ∧ j ≤ k - 1 ∧ x.size = d.size ∧ W = putRow U (Sort.ahead w m2) blk off x ∧ shiftDown ltInt j x = shiftDown ltInt (k - 1) (swp y k (k - 1))) (fun u _ => (Go.Proofs.intOf u).toNat)
                  case atStart => exact ⟨k - 1, _, (swp y k (k - 1)), by congr 1; omega, Nat.le_refl _, hs1, rfl, rfl⟩
                  case round =>
                    clear rd fz HW HG hsw
                    obtain ⟨j, m2, x, rfl, hjk, hx, hw2, hN⟩ := hrel
                    have HN := hide hN
                    clear hN
                    obtain ⟨g, hg⟩ : ∃ g : Nat → Int, ∀ t, g t = x[t]! := ⟨fun t => x[t]!, fun _ => rfl⟩
                    have rd : ∀ t, t < d.size → wr.cell? ⟨blk, off + t, none⟩ = some (.int .u32 (g t)) := fun t ht => by
                      rw [hw2, hg]; exact cell?_putRow _ _ _ _ d x (holds_ahead _ _ _ _ _ _ HH.out) hx t (by omega)
                    have fz : ∀ t, t < d.size → wr.frozen? ⟨blk, off + t, none⟩ = false := fun t ht => by
                      rw [hw2, frozen?_putRow]; exact ((holds_ahead _ _ m2 _ _ _ HH.out) t ht).2
                    have HW := hide hw2
                    have HG : Hid (∀ t, g t = x[t]!) := hg
                    clear hw2 hg
                    by_cases hj : 1 ≤ j
                    · go_wp2
                      go_quiet (first | (go_at_call 76; refine Calls.quiet_of_same (less_u _ _ _)))
                      go_wp2
                      · have hl : ltInt (g j) (g (j - 1)) = false := by
                          have h : (!ltInt (g j) (g (j - 1))) = true := by assumption
                          simpa using h
                        have HD : Hid (fixDown ltInt a k (swp y k (k - 1)) = x) := by
                          show fixDown ltInt a k (swp y k (k - 1)) = x
                          unfold fixDown; rw [if_pos (by omega), ← HN.out, shiftDown_stop ltInt j x (Or.inr (by rw [← HG.out, ← HG.out]; exact hl))]
                        go_roundw
                        case rel =>
                          refine ⟨k, s + 1, _, x, rfl, by go_num, by omega, by omega, by omega, hx, (by first | rfl | exact HW.out | (rw [HW.out]; exact putRow_drewN _ _ _ _ _ _ _)), ?_⟩
                          rw [← HO.out, pi_go ltInt a b s i k y hs HK.out (by omega) (by omega), HD.out, show fixUp ltInt b k x = x from by unfold fixUp; rw [if_neg (by omega)]]
                        case measure => simp [Go.Proofs.intOf]; omega
                      · have hl : ltInt (g j) (g (j - 1)) = true := by
                          have h : (!ltInt (g j) (g (j - 1))) = false := by assumption
                          simpa using h
                        go_region
                        all_goals go_wp2
                        go_roundw
                        case rel =>
                          refine ⟨j - 1, m2 + (nq + 1), swp x j (j - 1), by congr 1; omega, by omega, by rw [size_swp]; exact hx, ?_, ?_⟩
                          · rw [HW.out, HG.out, HG.out]
                            exact swap_worldA _ w m2 (nq + 1) blk off x j (j - 1) (by omega) (by omega)
                          · rw [← HN.out, shiftDown_go ltInt j x (by omega) (by rw [← HG.out, ← HG.out]; exact hl)]
                        case measure => simp [Go.Proofs.intOf]; omega
                    · go_wp2
                      have HD : Hid (fixDown ltInt a k (swp y k (k - 1)) = x) := by
                        show fixDown ltInt a k (swp y k (k - 1)) = x
                        unfold fixDown; rw [if_pos (by omega), ← HN.out, shiftDown_stop ltInt j x (Or.inl (by omega))]
                      go_roundw
                      case rel =>
                        refine ⟨k, s + 1, _, x, rfl, by go_num, by omega, by omega, by omega, hx, (by first | rfl | exact HW.out | (rw [HW.out]; exact putRow_drewN _ _ _ _ _ _ _)), ?_⟩
                        rw [← HO.out, pi_go ltInt a b s i k y hs HK.out (by omega) (by omega), HD.out, show fixUp ltInt b k x = x from by unfold fixUp; rw [if_neg (by omega)]]
                      case measure => simp [Go.Proofs.intOf]; omega
              · by_cases h2 : 2 ≤ b - k
                · go_wp2
                  have HD : Hid (fixDown ltInt a k (swp y k (k - 1)) = (swp y k (k - 1))) := by
                    show fixDown ltInt a k (swp y k (k - 1)) = (swp y k (k - 1))
                    unfold fixDown; rw [if_neg (by omega)]
                  go_loopw [10] (fun u W => ∃ (j m3 : Nat) (z : Array Int), u = .int .i64 j ∧ k + 1 ≤ j ∧ j ≤ b ∧ z.size = d.size ∧ W = putRow U (Sort.ahead w m3) blk off z ∧ shiftUp ltInt b j z = shiftUp ltInt b (k + 1) (swp y k (k - 1))) (fun u _ => b - (Go.Proofs.intOf u).toNat)
                  case atStart => exact ⟨k + 1, _, (swp y k (k - 1)), by go_num, Nat.le_refl _, by omega, hs1, (by first | rfl | exact HW.out | (rw [HW.out]; exact putRow_drewN _ _ _ _ _ _ _)), rfl⟩
                  case round =>
                    obtain ⟨j, m3, z, rfl, hkj, hjb, hz, hw3, hU⟩ := hrel
                    have HU := hide hU
                    clear hU
                    obtain ⟨g, hg⟩ : ∃ g : Nat → Int, ∀ t, g t = z[t]! := ⟨fun t => z[t]!, fun _ => rfl⟩
                    have rd : ∀ t, t < d.size → wr.cell? ⟨blk, off + t, none⟩ = some (.int .u32 (g t)) := fun t ht => by
                      rw [hw3, hg]; exact cell?_putRow _ _ _ _ d z (holds_ahead _ _ _ _ _ _ HH.out) hz t (by omega)
                    have fz : ∀ t, t < d.size → wr.frozen? ⟨blk, off + t, none⟩ = false := fun t ht => by
                      rw [hw3, frozen?_putRow]; exact ((holds_ahead _ _ m3 _ _ _ HH.out) t ht).2
                    have HW := hide hw3
                    have HG : Hid (∀ t, g t = z[t]!) := hg
                    clear hw3 hg
                    by_cases hj : j < b
                    · go_wp2
                      go_quiet (first | (go_at_call 76; refine Calls.quiet_of_same (less_u _ _ _)))
                      go_wp2
                      · have hl : ltInt (g j) (g (j - 1)) = false := by
                          have h : (!ltInt (g j) (g (j - 1))) = true := by assumption
                          simpa using h
                        go_roundw
                        case rel =>
                          refine ⟨k, s + 1, _, z, rfl, by go_num, by omega, by omega, by omega, hz, (by first | rfl | exact HW.out | (rw [HW.out]; exact putRow_drewN _ _ _ _ _ _ _)), ?_⟩
                          rw [← HO.out, pi_go ltInt a b s i k y hs HK.out (by omega) (by omega), HD.out, show fixUp ltInt b k (swp y k (k - 1)) = z from by unfold fixUp; rw [if_pos (by omega), ← HU.out, shiftUp_stop ltInt b j z (Or.inr (by rw [← HG.out, ← HG.out]; exact hl))]]
                        case measure => simp [Go.Proofs.intOf]; omega
                      · have hl : ltInt (g j) (g (j - 1)) = true := by
                          have h : (!ltInt (g j) (g (j - 1))) = false := by assumption
                          simpa using h
                        go_region
                        all_goals go_wp2
                        go_roundw
                        case rel =>
                          refine ⟨j + 1, m3 + (nq + 1), swp z j (j - 1), by go_num, by omega, by omega, by rw [size_swp]; exact hz, ?_, ?_⟩
                          · rw [HW.out, HG.out, HG.out]
                            exact swap_worldA _ w m3 (nq + 1) blk off z j (j - 1) (by omega) (by omega)
                          · rw [← HU.out, shiftUp_go ltInt b j z (by omega) (by rw [← HG.out, ← HG.out]; exact hl)]
                        case measure => simp [Go.Proofs.intOf]; omega
                    · go_wp2
                      go_roundw
                      case rel =>
                        refine ⟨k, s + 1, _, z, rfl, by go_num, by omega, by omega, by omega, hz, (by first | rfl | exact HW.out | (rw [HW.out]; exact putRow_drewN _ _ _ _ _ _ _)), ?_⟩
                        rw [← HO.out, pi_go ltInt a b s i k y hs HK.out (by omega) (by omega), HD.out, show fixUp ltInt b k (swp y k (k - 1)) = z from by unfold fixUp; rw [if_pos (by omega), ← HU.out, shiftUp_stop ltInt b j z (Or.inl (by omega))]]
                      case measure => simp [Go.Proofs.intOf]; omega
                · exfalso; omega
          · have hl' : ltInt (g k) (g (k - 1)) = false := by simpa using hn
            go_wp2
            go_roundw
            case rel => exact ⟨k + 1, m + nq, by go_num, by omega, by omega, by rw [HW.out]; exact putRow_drewN _ _ _ _ _ _ _, by rw [← HS.out, scanSorted_go ltInt y b k hk (by rw [← HG.out, ← HG.out]; exact hl')]⟩
            case measure => simp [Go.Proofs.intOf]; omega
        · go_wp2
          go_quiet (first | (go_at_call 76; refine Calls.quiet_of_same (less_u _ _ _)))
          go_wp2
          obtain rfl : k = b := by omega
          have hv : Sort.partialInsertionSort ltInt d a k = (y, true) := by
            unfold Sort.partialInsertionSort
            rw [← HO.out, pi_true ltInt a k s i y hs (by rw [← HS.out, scanSorted_stop ltInt y k k (Or.inl (by omega))])]
          rw [hv]
          go_ret
          exact ⟨rfl, m + nq, by rw [HW.out]; exact putRow_drewN _ _ _ _ _ _ _⟩
    · obtain rfl : s = 5 := by omega
      go_wp2
      have hv : Sort.partialInsertionSort ltInt d a b = (y, false) := by
        unfold Sort.partialInsertionSort
        rw [← HO.out, pi_end]
      rw [hv]
      go_ret
      exact ⟨rfl, n, rfl⟩
end Go.Proofs.Ytkfomhllaogplaa
