/-
  The document's plain instructions: set and Does.
-/
import Derived.Test.YtilphdfobflbiaaCD
import Derived.Test.YtilphdfobflbiaaRP
import Derived.Test.YtilphdfobflbiaaRR
import Derived.Test.YtilphdfobflbiaaLDoes
namespace Go.Proofs.Ytilphdfobflbiaa
open Go.RowKit Cp Ip
set_option linter.unusedSimpArgs false

theorem two_boxes (w : World) (c : Mach) : BoxC ((w.alloc (.cells (cells c) 25)).alloc (.cells (cells nought) 25)) w.heap.size c ∧ BoxC ((w.alloc (.cells (cells c) 25)).alloc (.cells (cells nought) 25)) (w.heap.size + 1) nought ∧ Below w.heap.size w ((w.alloc (.cells (cells c) 25)).alloc (.cells (cells nought) 25)) := by
  refine ⟨(Box.new w c).alloc _, ?_, ((Below.refl _ _).alloc (Nat.le_refl _) _).alloc (by simp) _⟩
  have := Box.new (t := 25) (w.alloc (.cells (cells c) 25)) nought
  simpa using this
set_option maxHeartbeats 1000000 in
theorem rset4_any (c : Mach) (rd : Int) (h0 : 0 ≤ rd) (h1 : rd < 32) (v : BitVec 32) (w : World) :
    Calls Try.prog 23 #[.agg (cells c), .int .i64 rd, .int .u32 (v.toNat : Int)] w fun e w' => e = .returned (.agg (cells (onw c rd v))) ∧ Below w.heap.size w w' := by
  have hz := zeroC
  obtain ⟨Q, hE, HQ⟩ := four c.pc
  by_cases hr : rd = 0
  · subst hr
    have hp := cells_pc c
    have hcp := cells_sp c Q
    obtain ⟨b1, b2, lw⟩ := two_boxes w (sp c Q)
    go_enter Try.func23, Try.ntmps23
    go_wp2_with (first
      | (refine wpList_load_row rfl 25 _ rfl w.heap.size rfl _ _ _ _ b1 Try.underlying25 rfl (infoCs _) ?_)
      | (refine wpList_store_row rfl 25 _ _ rfl (w.heap.size + 1) _ rfl rfl _ _ b2 (infoCs _) (cells_same _ _) (cells_one _) ?_))
    have e9 : sp c Q = onw c 0 v := by rw [HQ.out]; rfl
    rw [e9] at b1 b2 lw ⊢
    exact bodyPost_ret (v := .agg (cells (onw c 0 v))) (results_cell_row (p := 6) (by kernel_rfl) _ _ (w.heap.size + 1) _ _ _ _ rfl (b2.setRow _) Try.underlying25 rfl (infoCs _)) rfl
      ⟨rfl, below_row lw (by omega) _⟩
  · obtain ⟨k, rfl⟩ := Int.eq_ofNat_of_zero_le h0
    have hk : k < 32 := by omega
    have hk0 : (0 : Int) < k := by omega
    have hc := cells_x c k hk
    have hcx := cells_sx c k hk v
    have hp : (cells (sx c k v))[32]? = some (.int .u32 (c.pc.toNat : Int)) := cells_pc (sx c k v)
    have hcp := cells_sp (sx c k v) Q
    obtain ⟨b1, b2, lw⟩ := two_boxes w (sp (sx c k v) Q)
    have e9 : sp (sx c k v) Q = onw c k v := by
      rw [HQ.out]; unfold onw put; rw [if_neg (by omega)]; rfl
    have H9 : Hid (sp (sx c k v) Q = onw c k v) := e9
    clear e9
    go_enter Try.func23, Try.ntmps23
    go_wp2_with (first
      | (refine wpList_load_row rfl 25 _ rfl w.heap.size rfl _ _ _ _ b1 Try.underlying25 rfl (infoCs _) ?_)
      | (refine wpList_store_row rfl 25 _ _ rfl (w.heap.size + 1) _ rfl rfl _ _ b2 (infoCs _) (cells_same _ _) (cells_one _) ?_))
    rw [H9.out] at b1 b2 lw ⊢
    exact bodyPost_ret (v := .agg (cells (onw c k v))) (results_cell_row (p := 6) (by kernel_rfl) _ _ (w.heap.size + 1) _ _ _ _ rfl (b2.setRow _) Try.underlying25 rfl (infoCs _)) rfl
      ⟨rfl, below_row lw (by omega) _⟩
end Go.Proofs.Ytilphdfobflbiaa
