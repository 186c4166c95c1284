/-
  The library's sort at words of 32 bits: a range that is nearly in order.
  The library's sort at words of 32 bits, whole: the slice holds its words in order.
-/
import Derived.Sort.WalkA6
import Derived.Sort.Walk13
import Derived.Test.YtcffpmicencfpabGreatZf
import Derived.Test.YtcffpmicencfpabGreatZg
namespace Go.Proofs.YtcffpmicencfpabGreat
open Go.RowKit Go.Sort

set_option maxHeartbeats 3200000 in
set_option maxRecDepth 100000 in
theorem partial_u (blk off cap a b : Nat) (d : Array Int) (w : World) (hH : Holds U w blk off d) (hab : a < b) (hb : b ≤ d.size) (hsz : d.size < 4611686018427387904) :
    Calls Tryz.prog 96 #[.slice (some ⟨blk, off, none⟩) d.size cap, .int .i64 a, .int .i64 b] w fun e w' =>
      e = .returned (.bool (Sort.partialInsertionSort ltInt d a b).2) ∧ ∃ n, w' = putRow U (Sort.ahead w n) blk off (Sort.partialInsertionSort ltInt d a b).1 := by
  have HH : Hid (Holds U w blk off d) := hH
  have HST : Hid (w = putRow U (Sort.ahead w 0) blk off d) := (putRow_self _ _ _ _ _ hH).symm
  clear hH
  go_enter Tryz.func96, Tryz.ntmps96
  go_wp2
  go_loopw [7, 8] (fun u v W => ∃ (i s n : Nat) (y : Array Int), u = .int .i64 i ∧ v = .int .i64 s ∧ s ≤ 5 ∧ a < i ∧ i ≤ b ∧ y.size = d.size ∧ W = putRow U (Sort.ahead w n) blk off y ∧ partialIns ltInt a b (5 - s) i y = partialIns ltInt a b 5 (a + 1) d) (fun _ v _ => 5 - (Go.Proofs.intOf v).toNat)
  case atStart => exact ⟨a + 1, 0, 0, d, by go_num, rfl, by omega, by omega, by omega, rfl, HST.out, rfl⟩
  case round =>
    obtain ⟨i, s, n, y, rfl, rfl, hs5, hai, hib, hy, hwr, hO⟩ := hrel
    have HO := hide hO
    clear hO
    by_cases hs : s < 5
    · go_wp2
      go_loopw [7] (fun u W => ∃ (k m : Nat), u = .int .i64 k ∧ i ≤ k ∧ k ≤ b ∧ W = putRow U (Sort.ahead w m) blk off y ∧ scanSorted ltInt y b k = scanSorted ltInt y b i) (fun u _ => b - (Go.Proofs.intOf u).toNat)
      case atStart => exact ⟨i, n, rfl, Nat.le_refl _, hib, rfl, rfl⟩
      case round =>
        obtain ⟨k, m, rfl, hik, hkb, hw1, hS⟩ := hrel
        have HS := hide hS
        clear hS
        obtain ⟨g, hg⟩ : ∃ g : Nat → Int, ∀ t, g t = y[t]! := ⟨fun t => y[t]!, fun _ => rfl⟩
        have rd : ∀ t, t < d.size → wr.cell? ⟨blk, off + t, none⟩ = some (.int .u32 (g t)) := fun t ht => by
          rw [hw1, hg]; exact cell?_putRow _ _ _ _ d y (holds_ahead _ _ _ _ _ _ HH.out) hy t (by omega)
        have fz : ∀ t, t < d.size → wr.frozen? ⟨blk, off + t, none⟩ = false := fun t ht => by
          rw [hw1, frozen?_putRow]; exact ((holds_ahead _ _ m _ _ _ HH.out) t ht).2
        have HW := hide hw1
        have HG : Hid (∀ t, g t = y[t]!) := hg
        clear hw1 hg
        by_cases hk : k < b
        · go_wp2
          go_quiet (first | (go_at_call 97; refine Calls.quiet_of_same (less_u _ _ _)))
          rcases hn : (!ltInt (g k) (g (k - 1))) with _ | _
          · have hl : ltInt (g k) (g (k - 1)) = true := by simpa using hn
            have HK : Hid (scanSorted ltInt y b i = k) := by
              show scanSorted ltInt y b i = k
              rw [← HS.out, scanSorted_stop ltInt y b k (Or.inr (by rw [← HG.out, ← HG.out]; exact hl))]
            have hke : ((k : Int) == (b : Int)) = false := by simp; omega
            by_cases h50 : b - a < 50
            · go_wp2
              have hv : Sort.partialInsertionSort ltInt d a b = (y, false) := by
                unfold Sort.partialInsertionSort
                rw [← HO.out, pi_short ltInt a b s i y hs (by rw [HK.out]; omega) h50]
              rw [hv]
              go_ret
              exact ⟨rfl, m + nq, by rw [HW.out]; exact putRow_drewN _ _ _ _ _ _ _⟩
            · have hsw : ((wr.drewN (nq + 1)).setCell ⟨blk, off + k, none⟩ (.int .u32 (g (k - 1)))).setCell ⟨blk, off + (k - 1), none⟩ (.int .u32 (g k)) = putRow U (Sort.ahead w (m + (nq + 1))) blk off (swp y k (k - 1)) := by
                rw [HW.out, HG.out, HG.out]
                exact swap_worldA _ w m (nq + 1) blk off y k (k - 1) (by omega) (by omega)
              have hs1 : (swp y k (k - 1)).size = d.size := by rw [size_swp]; exact hy
              go_wp2
              go_region
              by_cases h1 : 2 ≤ k - a
              · by_cases h2 : 2 ≤ b - k
                · go_wp2
                  go_loopw [9] (fun u W => ∃ (j m2 : Nat) (x : Array Int), u = .int .i64 j ∧ j ≤ k - 1 ∧ x.size = d.size ∧ W = putRow U (Sort.ahead w m2) blk off x ∧ shiftDown ltInt j x = shiftDown ltInt (k - 1) (swp y k (k - 1))) (fun u _ => (Go.Proofs.intOf u).toNat)
                  case atStart => exact ⟨k - 1, _, (swp y k (k - 1)), by congr 1; omega, Nat.le_refl _, hs1, rfl, rfl⟩
                  case round =>
                    clear rd fz HW HG hsw
                    obtain ⟨j, m2, x, rfl, hjk, hx, hw2, hN⟩ := hrel
                    have HN := hide hN
                    clear hN
                    obtain ⟨g, hg⟩ : ∃ g : Nat → Int, ∀ t, g t = x[t]! := ⟨fun t => x[t]!, fun _ => rfl⟩
                    have rd : ∀ t, t < d.size → wr.cell? ⟨blk, off + t, none⟩ = some (.int .u32 (g t)) := fun t ht => by
                      rw [hw2, hg]; exact cell?_putRow _ _ _ _ d x (holds_ahead _ _ _ _ _ _ HH.out) hx t (by omega)
                    have fz : ∀ t, t < d.size → wr.frozen? ⟨blk, off + t, none⟩ = false := fun t ht => by
                      rw [hw2, frozen?_putRow]; exact ((holds_ahead _ _ m2 _ _ _ HH.out) t ht).2
                    have HW := hide hw2
                    have HG : Hid (∀ t, g t = x[t]!) := hg
                    clear hw2 hg
                    by_cases hj : 1 ≤ j
                    · go_wp2
                      go_quiet (first | (go_at_call 97; refine Calls.quiet_of_same (less_u _ _ _)))
                      go_wp2
                      · have hl : ltInt (g j) (g (j - 1)) = false := by
                          have h : (!ltInt (g j) (g (j - 1))) = true := by assumption
                          simpa using h
                        have HD : Hid (fixDown ltInt a k (swp y k (k - 1)) = x) := by
                          show fixDown ltInt a k (swp y k (k - 1)) = x
                          unfold fixDown; rw [if_pos (by omega), ← HN.out, shiftDown_stop ltInt j x (Or.inr (by rw [← HG.out, ← HG.out]; exact hl))]
                        go_loopw [10] (fun u W => ∃ (j m3 : Nat) (z : Array Int), u = .int .i64 j ∧ k + 1 ≤ j ∧ j ≤ b ∧ z.size = d.size ∧ W = putRow U (Sort.ahead w m3) blk off z ∧ shiftUp ltInt b j z = shiftUp ltInt b (k + 1) x) (fun u _ => b - (Go.Proofs.intOf u).toNat)
                        case atStart => exact ⟨k + 1, _, x, by go_num, Nat.le_refl _, by omega, hx, (by first | rfl | exact HW.out | (rw [HW.out]; exact putRow_drewN _ _ _ _ _ _ _)), rfl⟩
                        case round =>
                          obtain ⟨j, m3, z, rfl, hkj, hjb, hz, hw3, hU⟩ := hrel
                          have HU := hide hU
                          clear hU
                          obtain ⟨g, hg⟩ : ∃ g : Nat → Int, ∀ t, g t = z[t]! := ⟨fun t => z[t]!, fun _ => rfl⟩
                          have rd : ∀ t, t < d.size → wr.cell? ⟨blk, off + t, none⟩ = some (.int .u32 (g t)) := fun t ht => by
                            rw [hw3, hg]; exact cell?_putRow _ _ _ _ d z (holds_ahead _ _ _ _ _ _ HH.out) hz t (by omega)
                          have fz : ∀ t, t < d.size → wr.frozen? ⟨blk, off + t, none⟩ = false := fun t ht => by
                            rw [hw3, frozen?_putRow]; exact ((holds_ahead _ _ m3 _ _ _ HH.out) t ht).2
                          have HW := hide hw3
                          have HG : Hid (∀ t, g t = z[t]!) := hg
                          clear hw3 hg
                          by_cases hj : j < b
                          · go_wp2
                            go_quiet (first | (go_at_call 97; refine Calls.quiet_of_same (less_u _ _ _)))
                            go_wp2
                            · have hl : ltInt (g j) (g (j - 1)) = false := by
                                have h : (!ltInt (g j) (g (j - 1))) = true := by assumption
                                simpa using h
                              go_roundw
                              case rel =>
                                refine ⟨k, s + 1, _, z, rfl, by go_num, by omega, by omega, by omega, hz, (by first | rfl | exact HW.out | (rw [HW.out]; exact putRow_drewN _ _ _ _ _ _ _)), ?_⟩
                                rw [← HO.out, pi_go ltInt a b s i k y hs HK.out (by omega) (by omega), HD.out, show fixUp ltInt b k x = z from by unfold fixUp; rw [if_pos (by omega), ← HU.out, shiftUp_stop ltInt b j z (Or.inr (by rw [← HG.out, ← HG.out]; exact hl))]]
                              case measure => simp [Go.Proofs.intOf]; omega
                            · have hl : ltInt (g j) (g (j - 1)) = true := by
                                have h : (!ltInt (g j) (g (j - 1))) = false := by assumption
                                simpa using h
                              go_region
                              all_goals go_wp2
                              go_roundw
                              case rel =>
                                refine ⟨j + 1, m3 + (nq + 1), swp z j (j - 1), by go_num, by omega, by omega, by rw [size_swp]; exact hz, ?_, ?_⟩
                                · rw [HW.out, HG.out, HG.out]
                                  exact swap_worldA _ w m3 (nq + 1) blk off z j (j - 1) (by omega) (by omega)
                                · rw [← HU.out, shiftUp_go ltInt b j z (by omega) (by rw [← HG.out, ← HG.out]; exact hl)]
                              case measure => simp [Go.Proofs.intOf]; omega
                          · go_wp2
                            go_roundw
                            case rel =>
                              refine ⟨k, s + 1, _, z, rfl, by go_num, by omega, by omega, by omega, hz, (by first | rfl | exact HW.out | (rw [HW.out]; exact putRow_drewN _ _ _ _ _ _ _)), ?_⟩
                              rw [← HO.out, pi_go ltInt a b s i k y hs HK.out (by omega) (by omega), HD.out, show fixUp ltInt b k x = z from by unfold fixUp; rw [if_pos (by omega), ← HU.out, shiftUp_stop ltInt b j z (Or.inl (by omega))]]
                            case measure => simp [Go.Proofs.intOf]; omega
                      · have hl : ltInt (g j) (g (j - 1)) = true := by
                          have h : (!ltInt (g j) (g (j - 1))) = false := by assumption
                          simpa using h
                        go_region
                        all_goals go_wp2
                        go_roundw
                        case rel =>
                          refine ⟨j - 1, m2 + (nq + 1), swp x j (j - 1), by congr 1; omega, by omega, by rw [size_swp]; exact hx, ?_, ?_⟩
                          · rw [HW.out, HG.out, HG.out]
                            exact swap_worldA _ w m2 (nq + 1) blk off x j (j - 1) (by omega) (by omega)
                          · rw [← HN.out, shiftDown_go ltInt j x (by omega) (by rw [← HG.out, ← HG.out]; exact hl)]
                        case measure => simp [Go.Proofs.intOf]; omega
                    · go_wp2
                      have HD : Hid (fixDown ltInt a k (swp y k (k - 1)) = x) := by
                        show fixDown ltInt a k (swp y k (k - 1)) = x
                        unfold fixDown; rw [if_pos (by omega), ← HN.out, shiftDown_stop ltInt j x (Or.inl (by omega))]
                      go_loopw [10] (fun u W => ∃ (j m3 : Nat) (z : Array Int), u = .int .i64 j ∧ k + 1 ≤ j ∧ j ≤ b ∧ z.size = d.size ∧ W = putRow U (Sort.ahead w m3) blk off z ∧ shiftUp ltInt b j z = shiftUp ltInt b (k + 1) x) (fun u _ => b - (Go.Proofs.intOf u).toNat)
                      case atStart => exact ⟨k + 1, _, x, by go_num, Nat.le_refl _, by omega, hx, (by first | rfl | exact HW.out | (rw [HW.out]; exact putRow_drewN _ _ _ _ _ _ _)), rfl⟩
                      case round =>
                        obtain ⟨j, m3, z, rfl, hkj, hjb, hz, hw3, hU⟩ := hrel
                        have HU := hide hU
                        clear hU
                        obtain ⟨g, hg⟩ : ∃ g : Nat → Int, ∀ t, g t = z[t]! := ⟨fun t => z[t]!, fun _ => rfl⟩
                        have rd : ∀ t, t < d.size → wr.cell? ⟨blk, off + t, none⟩ = some (.int .u32 (g t)) := fun t ht => by
                          rw [hw3, hg]; exact cell?_putRow _ _ _ _ d z (holds_ahead _ _ _ _ _ _ HH.out) hz t (by omega)
                        have fz : ∀ t, t < d.size → wr.frozen? ⟨blk, off + t, none⟩ = false := fun t ht => by
                          rw [hw3, frozen?_putRow]; exact ((holds_ahead _ _ m3 _ _ _ HH.out) t ht).2
                        have HW := hide hw3
                        have HG : Hid (∀ t, g t = z[t]!) := hg
                        clear hw3 hg
                        by_cases hj : j < b
                        · go_wp2
                          go_quiet (first | (go_at_call 97; refine Calls.quiet_of_same (less_u _ _ _)))
                          go_wp2
                          · have hl : ltInt (g j) (g (j - 1)) = false := by
                              have h : (!ltInt (g j) (g (j - 1))) = true := by assumption
                              simpa using h
                            go_roundw
                            case rel =>
                              refine ⟨k, s + 1, _, z, rfl, by go_num, by omega, by omega, by omega, hz, (by first | rfl | exact HW.out | (rw [HW.out]; exact putRow_drewN _ _ _ _ _ _ _)), ?_⟩
                              rw [← HO.out, pi_go ltInt a b s i k y hs HK.out (by omega) (by omega), HD.out, show fixUp ltInt b k x = z from by unfold fixUp; rw [if_pos (by omega), ← HU.out, shiftUp_stop ltInt b j z (Or.inr (by rw [← HG.out, ← HG.out]; exact hl))]]
                            case measure => simp [Go.Proofs.intOf]; omega
                          · have hl : ltInt (g j) (g (j - 1)) = true := by
                              have h : (!ltInt (g j) (g (j - 1))) = false := by assumption
                              simpa using h
                            go_region
                            all_goals go_wp2
                            go_roundw
                            case rel =>
                              refine ⟨j + 1, m3 + (nq + 1), swp z j (j - 1), by go_num, by omega, by omega, by rw [size_swp]; exact hz, ?_, ?_⟩
                              · rw [HW.out, HG.out, HG.out]
                                exact swap_worldA _ w m3 (nq + 1) blk off z j (j - 1) (by omega) (by omega)
                              · rw [← HU.out, shiftUp_go ltInt b j z (by omega) (by rw [← HG.out, ← HG.out]; exact hl)]
                            case measure => simp [Go.Proofs.intOf]; omega
                        · go_wp2
                          go_roundw
                          case rel =>
                            refine ⟨k, s + 1, _, z, rfl, by go_num, by omega, by omega, by omega, hz, (by first | rfl | exact HW.out | (rw [HW.out]; exact putRow_drewN _ _ _ _ _ _ _)), ?_⟩
                            rw [← HO.out, pi_go ltInt a b s i k y hs HK.out (by omega) (by omega), HD.out, show fixUp ltInt b k x = z from by unfold fixUp; rw [if_pos (by omega), ← HU.out, shiftUp_stop ltInt b j z (Or.inl (by omega))]]
                          case measure => simp [Go.Proofs.intOf]; omega
                · go_wp2
                  go_loopw [9] (fun u W => ∃ (j m2 : Nat) (x : Array Int), u = .int .i64 j ∧ j ≤ k - 1 ∧ x.size = d.size ∧ W = putRow U (Sort.ahead w m2) blk off x ∧ shiftDown ltInt j x = shiftDown ltInt (k - 1) (swp y k (k - 1))) (fun u _ => (Go.Proofs.intOf u).toNat)
                  case atStart => exact ⟨k - 1, _, (swp y k (k - 1)), by congr 1; omega, Nat.le_refl _, hs1, rfl, rfl⟩
                  case round =>
                    clear rd fz HW HG hsw
                    obtain ⟨j, m2, x, rfl, hjk, hx, hw2, hN⟩ := hrel
                    have HN := hide hN
                    clear hN
                    obtain ⟨g, hg⟩ : ∃ g : Nat → Int, ∀ t, g t = x[t]! := ⟨fun t => x[t]!, fun _ => rfl⟩
                    have rd : ∀ t, t < d.size → wr.cell? ⟨blk, off + t, none⟩ = some (.int .u32 (g t)) := fun t ht => by
                      rw [hw2, hg]; exact cell?_putRow _ _ _ _ d x (holds_ahead _ _ _ _ _ _ HH.out) hx t (by omega)
                    have fz : ∀ t, t < d.size → wr.frozen? ⟨blk, off + t, none⟩ = false := fun t ht => by
                      rw [hw2, frozen?_putRow]; exact ((holds_ahead _ _ m2 _ _ _ HH.out) t ht).2
                    have HW := hide hw2
                    have HG : Hid (∀ t, g t = x[t]!) := hg
                    clear hw2 hg
                    by_cases hj : 1 ≤ j
                    · go_wp2
                      go_quiet (first | (go_at_call 97; refine Calls.quiet_of_same (less_u _ _ _)))
                      go_wp2
                      · have hl : ltInt (g j) (g (j - 1)) = false := by
                          have h : (!ltInt (g j) (g (j - 1))) = true := by assumption
                          simpa using h
                        have HD : Hid (fixDown ltInt a k (swp y k (k - 1)) = x) := by
                          show fixDown ltInt a k (swp y k (k - 1)) = x
                          unfold fixDown; rw [if_pos (by omega), ← HN.out, shiftDown_stop ltInt j x (Or.inr (by rw [← HG.out, ← HG.out]; exact hl))]
                        go_roundw
                        case rel =>
                          refine ⟨k, s + 1, _, x, rfl, by go_num, by omega, by omega, by omega, hx, (by first | rfl | exact HW.out | (rw [HW.out]; exact putRow_drewN _ _ _ _ _ _ _)), ?_⟩
                          rw [← HO.out, pi_go ltInt a b s i k y hs HK.out (by omega) (by omega), HD.out, show fixUp ltInt b k x = x from by unfold fixUp; rw [if_neg (by omega)]]
                        case measure => simp [Go.Proofs.intOf]; omega
                      · have hl : ltInt (g j) (g (j - 1)) = true := by
                          have h : (!ltInt (g j) (g (j - 1))) = false := by assumption
                          simpa using h
                        go_region
                        all_goals go_wp2
                        go_roundw
                        case rel =>
                          refine ⟨j - 1, m2 + (nq + 1), swp x j (j - 1), by congr 1; omega, by omega, by rw [size_swp]; exact hx, ?_, ?_⟩
                          · rw [HW.out, HG.out, HG.out]
                            exact swap_worldA _ w m2 (nq + 1) blk off x j (j - 1) (by omega) (by omega)
                          · rw [← HN.out, shiftDown_go ltInt j x (by omega) (by rw [← HG.out, ← HG.out]; exact hl)]
                        case measure => simp [Go.Proofs.intOf]; omega
                    · go_wp2
                      have HD : Hid (fixDown ltInt a k (swp y k (k - 1)) = x) := by
                        show fixDown ltInt a k (swp y k (k - 1)) = x
                        unfold fixDown; rw [if_pos (by omega), ← HN.out, shiftDown_stop ltInt j x (Or.inl (by omega))]
                      go_roundw
                      case rel =>
                        refine ⟨k, s + 1, _, x, rfl, by go_num, by omega, by omega, by omega, hx, (by first | rfl | exact HW.out | (rw [HW.out]; exact putRow_drewN _ _ _ _ _ _ _)), ?_⟩
                        rw [← HO.out, pi_go ltInt a b s i k y hs HK.out (by omega) (by omega), HD.out, show fixUp ltInt b k x = x from by unfold fixUp; rw [if_neg (by omega)]]
                      case measure => simp [Go.Proofs.intOf]; omega
              · by_cases h2 : 2 ≤ b - k
                · go_wp2
                  have HD : Hid (fixDown ltInt a k (swp y k (k - 1)) = (swp y k (k - 1))) := by
                    show fixDown ltInt a k (swp y k (k - 1)) = (swp y k (k - 1))
                    unfold fixDown; rw [if_neg (by omega)]
                  go_loopw [10] (fun u W => ∃ (j m3 : Nat) (z : Array Int), u = .int .i64 j ∧ k + 1 ≤ j ∧ j ≤ b ∧ z.size = d.size ∧ W = putRow U (Sort.ahead w m3) blk off z ∧ shiftUp ltInt b j z = shiftUp ltInt b (k + 1) (swp y k (k - 1))) (fun u _ => b - (Go.Proofs.intOf u).toNat)
                  case atStart => exact ⟨k + 1, _, (swp y k (k - 1)), by go_num, Nat.le_refl _, by omega, hs1, (by first | rfl | exact HW.out | (rw [HW.out]; exact putRow_drewN _ _ _ _ _ _ _)), rfl⟩
                  case round =>
                    obtain ⟨j, m3, z, rfl, hkj, hjb, hz, hw3, hU⟩ := hrel
                    have HU := hide hU
                    clear hU
                    obtain ⟨g, hg⟩ : ∃ g : Nat → Int, ∀ t, g t = z[t]! := ⟨fun t => z[t]!, fun _ => rfl⟩
                    have rd : ∀ t, t < d.size → wr.cell? ⟨blk, off + t, none⟩ = some (.int .u32 (g t)) := fun t ht => by
                      rw [hw3, hg]; exact cell?_putRow _ _ _ _ d z (holds_ahead _ _ _ _ _ _ HH.out) hz t (by omega)
                    have fz : ∀ t, t < d.size → wr.frozen? ⟨blk, off + t, none⟩ = false := fun t ht => by
                      rw [hw3, frozen?_putRow]; exact ((holds_ahead _ _ m3 _ _ _ HH.out) t ht).2
                    have HW := hide hw3
                    have HG : Hid (∀ t, g t = z[t]!) := hg
                    clear hw3 hg
                    by_cases hj : j < b
                    · go_wp2
                      go_quiet (first | (go_at_call 97; refine Calls.quiet_of_same (less_u _ _ _)))
                      go_wp2
                      · have hl : ltInt (g j) (g (j - 1)) = false := by
                          have h : (!ltInt (g j) (g (j - 1))) = true := by assumption
                          simpa using h
                        go_roundw
                        case rel =>
                          refine ⟨k, s + 1, _, z, rfl, by go_num, by omega, by omega, by omega, hz, (by first | rfl | exact HW.out | (rw [HW.out]; exact putRow_drewN _ _ _ _ _ _ _)), ?_⟩
                          rw [← HO.out, pi_go ltInt a b s i k y hs HK.out (by omega) (by omega), HD.out, show fixUp ltInt b k (swp y k (k - 1)) = z from by unfold fixUp; rw [if_pos (by omega), ← HU.out, shiftUp_stop ltInt b j z (Or.inr (by rw [← HG.out, ← HG.out]; exact hl))]]
                        case measure => simp [Go.Proofs.intOf]; omega
                      · have hl : ltInt (g j) (g (j - 1)) = true := by
                          have h : (!ltInt (g j) (g (j - 1))) = false := by assumption
                          simpa using h
                        go_region
                        all_goals go_wp2
                        go_roundw
                        case rel =>
                          refine ⟨j + 1, m3 + (nq + 1), swp z j (j - 1), by go_num, by omega, by omega, by rw [size_swp]; exact hz, ?_, ?_⟩
                          · rw [HW.out, HG.out, HG.out]
                            exact swap_worldA _ w m3 (nq + 1) blk off z j (j - 1) (by omega) (by omega)
                          · rw [← HU.out, shiftUp_go ltInt b j z (by omega) (by rw [← HG.out, ← HG.out]; exact hl)]
                        case measure => simp [Go.Proofs.intOf]; omega
                    · go_wp2
                      go_roundw
                      case rel =>
                        refine ⟨k, s + 1, _, z, rfl, by go_num, by omega, by omega, by omega, hz, (by first | rfl | exact HW.out | (rw [HW.out]; exact putRow_drewN _ _ _ _ _ _ _)), ?_⟩
                        rw [← HO.out, pi_go ltInt a b s i k y hs HK.out (by omega) (by omega), HD.out, show fixUp ltInt b k (swp y k (k - 1)) = z from by unfold fixUp; rw [if_pos (by omega), ← HU.out, shiftUp_stop ltInt b j z (Or.inl (by omega))]]
                      case measure => simp [Go.Proofs.intOf]; omega
                · exfalso; omega
          · have hl' : ltInt (g k) (g (k - 1)) = false := by simpa using hn
            go_wp2
            go_roundw
            case rel => exact ⟨k + 1, m + nq, by go_num, by omega, by omega, by rw [HW.out]; exact putRow_drewN _ _ _ _ _ _ _, by rw [← HS.out, scanSorted_go ltInt y b k hk (by rw [← HG.out, ← HG.out]; exact hl')]⟩
            case measure => simp [Go.Proofs.intOf]; omega
        · go_wp2
          go_quiet (first | (go_at_call 97; refine Calls.quiet_of_same (less_u _ _ _)))
          go_wp2
          obtain rfl : k = b := by omega
          have hv : Sort.partialInsertionSort ltInt d a k = (y, true) := by
            unfold Sort.partialInsertionSort
            rw [← HO.out, pi_true ltInt a k s i y hs (by rw [← HS.out, scanSorted_stop ltInt y k k (Or.inl (by omega))])]
          rw [hv]
          go_ret
          exact ⟨rfl, m + nq, by rw [HW.out]; exact putRow_drewN _ _ _ _ _ _ _⟩
    · obtain rfl : s = 5 := by omega
      go_wp2
      have hv : Sort.partialInsertionSort ltInt d a b = (y, false) := by
        unfold Sort.partialInsertionSort
        rw [← HO.out, pi_end]
      rw [hv]
      go_ret
      exact ⟨rfl, n, rfl⟩
end Go.Proofs.YtcffpmicencfpabGreat
namespace Go.Proofs.YtcffpmicencfpabGreat
open Go.RowKit Go.Sort

set_option maxHeartbeats 6400000 in
set_option maxRecDepth 1000000 in
theorem pdq_u : ∀ (N blk off cap a b limit : Nat) (d : Array Int) (w : World), b - a < N → Holds U w blk off d → blk < w.heap.size → a ≤ b → b ≤ d.size → d.size < 4611686018427387904 → limit < 4611686018427387904 → Sort.Below ltInt a b d →
    Calls Tryz.prog 81 #[.slice (some ⟨blk, off, none⟩) d.size cap, .int .i64 a, .int .i64 b, .int .i64 limit] w fun e w' => e = .returned (.tuple #[]) ∧ At U w blk off (pdq ltInt d a b limit true true) w' := by
  intro N
  induction N with
  | zero => intro _ _ _ _ _ _ _ _ h; exact absurd h (Nat.not_lt_zero _)
  | succ N ih =>
    intro blk off cap a b limit d w hN hH hblk hab hb hsz hlimit hB0
    have IH := hide ih
    clear ih
    go_enter Tryz.func81, Tryz.ntmps81
    go_wp2
    go_loopg [1, 2, 3, 8, 9] (b - a) (fun k s1 s2 s3 s8 s9 W => ∃ (p q lm : Nat) (wb wp : Bool) (y : Array Int), s1 = .int .i64 p ∧ s2 = .int .i64 q ∧ s3 = .int .i64 lm ∧ s8 = .bool wb ∧ s9 = .bool wp ∧
      p ≤ q ∧ q ≤ d.size ∧ q - p ≤ k ∧ k ≤ b - a ∧ lm ≤ limit ∧ y.size = d.size ∧ Sort.Below ltInt p q y ∧ At U w blk off y W ∧ pdq ltInt y p q lm wb wp = pdq ltInt d a b limit true true)
    case atStart => exact ⟨a, b, limit, true, true, d, rfl, rfl, rfl, rfl, rfl, hab, hb, Nat.le_refl _, Nat.le_refl _, Nat.le_refl _, rfl, hB0, At.refl hH, rfl⟩
    case round =>
      obtain ⟨p, q, lm, wb, wp, y, rfl, rfl, rfl, rfl, rfl, hpq, hq, hk, hkN, hlm, hy, hB, hAt, hE⟩ := hrel
      obtain ⟨hK, hbl⟩ := hAt.holds hH hy hblk
      have A : Aside (pdq ltInt y p q lm wb wp = pdq ltInt d a b limit true true) := hE
      clear hE
      by_cases h12 : q - p ≤ 12
      · have h12z : (q : Int) - (p : Int) ≤ 12 := by omega
        have hc := insertion_u blk off cap p q y wr hK hpq (by omega) (by omega)
        rw [hy] at hc
        go_wp2_with (go_at_call 91; refine hc.mono ?_; rintro e w1 ⟨rfl, hw1⟩)
        (try simp only [Exit.inBlock, Exit.then]); refine bodyPost_ret (results_none rfl _ _ _) rfl ?_
        refine ⟨rfl, ?_⟩
        rw [← A.out, pdq_small h12]
        exact hAt.step hblk (insertionSort_holds swo_ltInt y p q hpq (by omega)).1.1 hw1
      · have h12z : ¬ ((q : Int) - (p : Int) ≤ 12) := by omega
        by_cases hl0 : lm = 0
        · subst hl0
          have hc := heap_u blk off d.size cap y hy p q wr hK hpq (by omega) (by omega)
          go_wp2_with (go_at_call 92; refine hc.mono ?_; rintro e w1 ⟨rfl, hw1⟩)
          (try simp only [Exit.inBlock, Exit.then]); refine bodyPost_ret (results_none rfl _ _ _) rfl ?_
          refine ⟨rfl, ?_⟩
          rw [← A.out, pdq_heap h12 rfl]
          exact hAt.step hblk (heapSort_holds swo_ltInt y p q hpq (by omega)).1.1 hw1
        · have hl0z : ¬ ((lm : Int) = 0) := by omega
          obtain ⟨s1, B1, hc1, s2, B2, hpv, s3, B3⟩ := rd_facts (limit := lm) (wb := wb) (wp := wp) swo_ltInt partialInsertionSort_holds reverseRange_holds (show p < q by omega) (show q ≤ y.size by omega) hB
          go_upto_if 35 with fail
          go_cut [3] from 19 (fun u W => u = .int .i64 (rd ltInt y p q lm wb wp).lim ∧ At U w blk off (rd ltInt y p q lm wb wp).d1 W)
          case first =>
            cases wb
            · have hc := break_u blk off cap p q y wr hK hbl hpq (by omega) (by omega)
              rw [hy] at hc
              go_wp2_with (go_at_call 93; refine hc.mono ?_; rintro e w1 ⟨rfl, hw1⟩)
              go_meet
              case rel =>
                refine ⟨?_, hAt.stepG hblk s1 hw1⟩
                show Value.int .i64 ((lm : Int) - 1) = Value.int .i64 ((lm - 1 : Nat) : Int)
                congr 1
                omega
            · go_wp2_with fail
              go_meet
              case rel => exact ⟨rfl, hAt⟩
          case rest =>
            obtain ⟨rfl, hAt1⟩ := hcut
            obtain ⟨hH1, hb1⟩ := hAt1.holds hH (s1.trans hy) hblk
            have hcp : Calls Tryz.prog 94 #[.slice (some ⟨blk, off, none⟩) d.size cap, .int .i64 p, .int .i64 q] wc fun e w' => e = .returned (.tuple #[.int .i64 (rd ltInt y p q lm wb wp).c.1, .int .i64 (hintCode (rd ltInt y p q lm wb wp).c.2)]) ∧ ∃ n os, w' = grow (Sort.ahead wc n) os := by
              have := pivot_u blk off cap p q (rd ltInt y p q lm wb wp).d1 wc hH1 hb1 (by omega) (by omega) (by omega)
              rw [s1, hy] at this
              exact this
            go_upto_if 50 with (go_at_call 94; refine hcp.mono ?_; rintro e w2 ⟨rfl, hw2⟩)
            have hAt2 : At U w blk off (rd ltInt y p q lm wb wp).d1 w2 := hAt1.same hH (s1.trans hy) hblk hw2
            obtain ⟨hH2, hb2⟩ := hAt2.holds hH (s1.trans hy) hblk
            go_cut [11, 12] from 19 (fun u v W => u = .int .i64 (rd ltInt y p q lm wb wp).pivot ∧ v = .int .i64 (hintCode (rd ltInt y p q lm wb wp).hint) ∧ At U w blk off (rd ltInt y p q lm wb wp).d2 W)
            case first =>
              by_cases hh : (rd ltInt y p q lm wb wp).c.2 = .decreasing
              · have hcode : hintCode (rd ltInt y p q lm wb wp).c.2 = 2 := by rw [hh]; rfl
                obtain ⟨e2, epv, eht⟩ := rd_dec hh
                have hcr := reverse_u blk off cap (rd ltInt y p q lm wb wp).d1 p q w2 hH2 hpq (by omega) (by omega)
                rw [s1, hy] at hcr
                go_wp2_with (go_at_call 95; refine hcr.mono ?_; rintro e w3 ⟨rfl, hw3⟩)
                go_meet
                case rel =>
                  refine ⟨?_, by rw [eht]; rfl, by rw [e2]; exact hAt2.step hblk (by rw [← e2, s2, s1]) hw3⟩
                  rw [epv]
                  congr 1
                  omega
              · have hcode : ¬ (hintCode (rd ltInt y p q lm wb wp).c.2 = 2) := fun h => hh (hintCode_two h)
                obtain ⟨e2, epv, eht⟩ := rd_not hh
                go_wp2_with fail
                go_meet
                case rel => exact ⟨by rw [epv], by rw [eht], by rw [e2]; exact hAt2⟩
            case rest =>
              obtain ⟨rfl, rfl, hAt3⟩ := hcut
              obtain ⟨hH3, hb3⟩ := hAt3.holds hH (s2.trans hy) hblk
              go_upto_region 15 with fail
              go_cut [12, 68] from 19 (fun u v W => u = .int .i64 (hintCode (rd ltInt y p q lm wb wp).hint) ∧ v = .bool (wb && wp && decide ((rd ltInt y p q lm wb wp).hint = .increasing)) ∧ W = wc)
              case first =>
                cases wb <;> cases wp <;> cases hh3 : (rd ltInt y p q lm _ _).hint <;>
                  (have hcode3 := congrArg hintCode hh3
                   simp only [hintCode] at hcode3
                   go_wp2_with fail
                   go_meet
                   exact ⟨by simp [hh3, hintCode], by simp [hh3, hintCode], rfl⟩)
              case rest =>
                obtain ⟨rfl, rfl, rfl⟩ := hcut
                go_upto_if 68 with fail
                go_cut [] from 19 (fun W => (rd ltInt y p q lm wb wp).pi.2 = false ∧ At U w blk off (rd ltInt y p q lm wb wp).pi.1 W)
                case first =>
                  cases h68 : (wb && wp && decide ((rd ltInt y p q lm wb wp).hint = .increasing))
                  · have epi := rd_pi_no h68
                    go_wp2_with fail
                    go_meet
                    case rel => exact ⟨by rw [epi], by rw [epi]; exact hAt3⟩
                  · have epi := rd_pi_yes h68
                    have hcs := partial_u blk off cap p q (rd ltInt y p q lm wb wp).d2 wc hH3 (by omega) (by omega) (by omega)
                    rw [s2, hy, ← epi] at hcs
                    go_wp2_with (go_at_call 96; refine hcs.mono ?_; rintro e w4 ⟨rfl, hw4⟩)
                    all_goals first
                      | (have hp2 : (rd ltInt y p q lm wb wp).pi.2 = false := by rw [epi]; assumption
                         go_meet
                         exact ⟨hp2, hAt3.step hblk (by rw [s3, s2]) hw4⟩)
                      | (have hp2 : (rd ltInt y p q lm wb wp).pi.2 = true := by rw [epi]; assumption
                         (try simp only [Exit.inBlock, Exit.then]); refine bodyPost_ret (results_none rfl _ _ _) rfl ?_
                         refine ⟨rfl, ?_⟩
                         rw [← A.out, pdq_done h12 hl0 hp2]
                         exact hAt3.step hblk (by rw [s3, s2]) hw4)
                case rest =>
                  obtain ⟨hp2, hAt5⟩ := hcut
                  obtain ⟨hH5, hb5⟩ := hAt5.holds hH (s3.trans hy) hblk
                  have rdc : ∀ t, t < d.size → wc.cell? ⟨blk, off + t, none⟩ = some (.int .u32 (rd ltInt y p q lm wb wp).pi.1[t]!) := fun t ht => (hH5 t (by omega)).1
                  have fzc : ∀ t, t < d.size → wc.frozen? ⟨blk, off + t, none⟩ = false := fun t ht => (hH5 t (by omega)).2
                  go_upto_region 17 with fail
                  go_cut [87] from 19 (fun u W => u = .bool (decide (p > 0) && !ltInt (rd ltInt y p q lm wb wp).pi.1[p - 1]! (rd ltInt y p q lm wb wp).pi.1[(rd ltInt y p q lm wb wp).pivot]!) ∧ At U w blk off (rd ltInt y p q lm wb wp).pi.1 W)
                  case first =>
                    rcases Nat.eq_zero_or_pos p with hp0 | hp0
                    · have hp0z : decide ((p : Int) > 0) = false := decide_eq_false (by omega)
                      go_big_quiet (first | (go_at_call 97; refine Calls.quiet_of_same (less_u _ _ _)))
                      go_wp2_with fail
                      go_meet
                      case rel => exact ⟨by simp [hp0], hAt5.ahead nq⟩
                    · have hp0z : (p : Int) > 0 := by omega
                      go_big_quiet (first | (go_at_call 97; refine Calls.quiet_of_same (less_u _ _ _)))
                      go_wp2_with fail
                      go_meet
                      case rel => exact ⟨by simp [hp0], hAt5.ahead nq⟩
                  case rest =>
                    obtain ⟨rfl, hAt6⟩ := hcut
                    obtain ⟨hH6, hb6⟩ := hAt6.holds hH (s3.trans hy) hblk
                    clear rdc fzc
                    cases h87 : (decide (p > 0) && !ltInt (rd ltInt y p q lm wb wp).pi.1[p - 1]! (rd ltInt y p q lm wb wp).pi.1[(rd ltInt y p q lm wb wp).pivot]!)
                    · obtain ⟨mid, ap, d4, hx⟩ : ∃ mid ap d4, partition ltInt (rd ltInt y p q lm wb wp).pi.1 p q (rd ltInt y p q lm wb wp).pivot = (mid, ap, d4) := ⟨(partition ltInt (rd ltInt y p q lm wb wp).pi.1 p q (rd ltInt y p q lm wb wp).pivot).1, (partition ltInt (rd ltInt y p q lm wb wp).pi.1 p q (rd ltInt y p q lm wb wp).pivot).2.1, (partition ltInt (rd ltInt y p q lm wb wp).pi.1 p q (rd ltInt y p q lm wb wp).pivot).2.2, rfl⟩
                      obtain ⟨r1, r2, r3, r4, r5, r6, r7⟩ := round_part swo_ltInt (partition_holds _) hpv.1 hpv.2 (show q ≤ (rd ltInt y p q lm wb wp).pi.1.size by omega) B3 hx
                      have hct := part_u blk off cap p q (rd ltInt y p q lm wb wp).pivot (rd ltInt y p q lm wb wp).pi.1 wc hH6 hpv.1 hpv.2 (by omega) (by omega)
                      rw [s3, hy, hx] at hct
                      have X : Aside (partition ltInt (rd ltInt y p q lm wb wp).pi.1 p q (rd ltInt y p q lm wb wp).pivot = (mid, ap, d4)) := hx
                      clear hx
                      go_upto_if 113 with (go_at_call 99; refine hct.mono ?_; rintro e w7 ⟨rfl, hw7⟩)
                      have hx := X.out
                      have hAt7 : At U w blk off d4 w7 := hAt6.step hblk r3 hw7
                      obtain ⟨hH7, hb7⟩ := hAt7.holds hH (r3.trans (s3.trans hy)) hblk
                      by_cases h4 : mid - p < q - mid
                      · have h4z : (mid : Int) - (p : Int) < (q : Int) - (mid : Int) := by omega
                        have hih := IH.out blk off cap p mid (rd ltInt y p q lm wb wp).lim d4 w7 (by omega) hH7 hb7 (by omega) (by omega) (by omega) (Nat.lt_of_le_of_lt (Nat.le_trans rd_lim_le hlm) hlimit) r4
                        rw [r3, s3, hy] at hih
                        obtain ⟨pL, sL⟩ := pdq_sorts ltInt swo_ltInt d4 p mid (rd ltInt y p q lm wb wp).lim true true (by omega) (by omega) r4
                        go_wp2_with (go_at_call 81; refine hih.mono ?_; rintro e w8 ⟨rfl, hw8⟩)
                        go_roundg (q - (mid + 1))
                        case measure => omega
                        case rel =>
                          refine ⟨mid + 1, q, (rd ltInt y p q lm wb wp).lim, decide (mid - p ≥ (q - p) / 8), ap, pdq ltInt d4 p mid (rd ltInt y p q lm wb wp).lim true true, by simp, rfl, rfl, ?_, rfl, by omega, by omega, Nat.le_refl _, by omega, Nat.le_trans rd_lim_le hlm, by rw [pL.1, r3, s3, hy], (r6 _ pL sL).1, hAt7.stepG hblk pL.1 hw8, ?_⟩
                          · exact congrArg Value.bool (eighth (by omega) (by omega))
                          · rw [← A.out, pdq_left h12 hl0 hp2 h87 (by rw [hx]; exact ⟨r1, r2⟩) (by rw [hx]; exact h4), hx]
                      · have h4z : ¬ ((mid : Int) - (p : Int) < (q : Int) - (mid : Int)) := by omega
                        have hih := IH.out blk off cap (mid + 1) q (rd ltInt y p q lm wb wp).lim d4 w7 (by omega) hH7 hb7 (by omega) (by omega) (by omega) (Nat.lt_of_le_of_lt (Nat.le_trans rd_lim_le hlm) hlimit) r5
                        rw [r3, s3, hy] at hih
                        obtain ⟨pL, sL⟩ := pdq_sorts ltInt swo_ltInt d4 (mid + 1) q (rd ltInt y p q lm wb wp).lim true true (by omega) (by omega) r5
                        go_wp2_with (go_at_call 81; refine hih.mono ?_; rintro e w8 ⟨rfl, hw8⟩)
                        go_roundg (mid - p)
                        case measure => omega
                        case rel =>
                          refine ⟨p, mid, (rd ltInt y p q lm wb wp).lim, decide (q - mid ≥ (q - p) / 8), ap, pdq ltInt d4 (mid + 1) q (rd ltInt y p q lm wb wp).lim true true, rfl, rfl, rfl, ?_, rfl, by omega, by omega, Nat.le_refl _, by omega, Nat.le_trans rd_lim_le hlm, by rw [pL.1, r3, s3, hy], (r7 _ pL sL).1, hAt7.stepG hblk pL.1 hw8, ?_⟩
                          · exact congrArg Value.bool (eighth (by omega) (by omega))
                          · rw [← A.out, pdq_right h12 hl0 hp2 h87 (by rw [hx]; exact ⟨r1, r2⟩) (by rw [hx]; exact h4), hx]
                    · have h87' := h87
                      simp only [Bool.and_eq_true, decide_eq_true_eq, Bool.not_eq_true'] at h87'
                      obtain ⟨mid, d4, hx⟩ : ∃ mid d4, partitionEqual ltInt (rd ltInt y p q lm wb wp).pi.1 p q (rd ltInt y p q lm wb wp).pivot = (mid, d4) := ⟨(partitionEqual ltInt (rd ltInt y p q lm wb wp).pi.1 p q (rd ltInt y p q lm wb wp).pivot).1, (partitionEqual ltInt (rd ltInt y p q lm wb wp).pi.1 p q (rd ltInt y p q lm wb wp).pivot).2, rfl⟩
                      obtain ⟨r1, r2, r3, r4, _⟩ := round_eq swo_ltInt (partitionEqual_holds _) h87'.1 hpv.1 hpv.2 (show q ≤ (rd ltInt y p q lm wb wp).pi.1.size by omega) B3 h87'.2 hx
                      have hce := partEqual_u blk off cap p q (rd ltInt y p q lm wb wp).pivot (rd ltInt y p q lm wb wp).pi.1 wc hH6 hpv.1 hpv.2 (by omega) (by omega)
                      rw [s3, hy, hx] at hce
                      have X : Aside (partitionEqual ltInt (rd ltInt y p q lm wb wp).pi.1 p q (rd ltInt y p q lm wb wp).pivot = (mid, d4)) := hx
                      clear hx
                      go_wp2_with (go_at_call 98; refine hce.mono ?_; rintro e w7 ⟨rfl, hw7⟩)
                      go_roundg (q - mid)
                      case measure => omega
                      case rel =>
                        have hx := X.out
                        exact ⟨mid, q, (rd ltInt y p q lm wb wp).lim, wb, wp, d4, rfl, rfl, rfl, rfl, rfl, r2, hq, Nat.le_refl _, by omega, Nat.le_trans rd_lim_le hlm, by rw [r3, s3, hy], r4, hAt6.step hblk r3 hw7, by rw [← A.out, pdq_eq h12 hl0 hp2 h87 (by rw [hx]; exact ⟨r1, r2⟩), hx]⟩

/-- slices.Sort at words: the row holds its words by rising size; new blocks lie behind, nothing else has turned. -/
theorem sort_u (blk off cap : Nat) (zs : List Int) (w : World) (hH : Holds U w blk off zs.toArray) (hblk : blk < w.heap.size) (hsz : zs.length < 4611686018427387904) :
    Calls Tryz.prog 66 #[.slice (some ⟨blk, off, none⟩) zs.length cap] w fun e w' =>
      e = .returned (.tuple #[]) ∧ ∃ n os, w' = grow (putRow U (Sort.ahead w n) blk off (zs.mergeSort fun x y => decide (x ≤ y)).toArray) os := by
  have hk : bitsLen zs.length ≤ 62 := (bitsLen_le_iff zs.length 62).2 (by omega)
  have c := pdq_u (zs.toArray.size + 1) blk off cap 0 zs.toArray.size (bitsLen zs.length) zs.toArray w (by omega) hH hblk (Nat.zero_le _) (Nat.le_refl _) (by simpa using hsz) (by omega) (Or.inl rfl)
  have es : pdq ltInt zs.toArray 0 zs.toArray.size (bitsLen zs.length) true true = (zs.mergeSort fun x y => decide (x ≤ y)).toArray := by
    have e := sortInt zs
    unfold Sort.sort at e
    rw [List.size_toArray] at e ⊢
    rw [← e]
  rw [es] at c
  simp only [List.size_toArray] at c
  have C := hide c
  clear c es hH
  go_enter Tryz.func66, Tryz.ntmps66
  go_wp2_with (first
    | (go_at_call 82; refine (len_u zs.length hsz _).mono ?_; rintro e w' ⟨rfl, rfl⟩)
    | (go_at_call 81; refine C.out.mono ?_; rintro e w' ⟨rfl, n, os, rfl⟩))
  go_end0
  exact ⟨rfl, n, os, rfl⟩
end Go.Proofs.YtcffpmicencfpabGreat
